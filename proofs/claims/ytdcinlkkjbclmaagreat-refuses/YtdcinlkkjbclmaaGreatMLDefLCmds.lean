/- What the law keeps in its hands beside a volume. -/
import Derived.Test.YtdcinlkkjbclmaaGreatLBook
namespace Go.Proofs.YtdcinlkkjbclmaaGreat
open Go.RowKit

structure LX where
  D : Nat
  S : Nat
  pb : Nat
  ds : Value
  out : Value
  last : Nat
  time : Nat
  blocks : Value
  formed : Bool
  stale : Value
  knows : Value
  done : Nat
  bs : Value
  ks : Value
  n : Nat
  cs : Value
  rs : Value
  kc : Value
  kr : Value
/-- the cells of a World -/
def lwL (X : LX) : List Value := [.bool false, .bool false, .bool false, .bool false, .int .i64 (X.D : Int), .int .i64 (X.S : Int), .pointer (some ⟨X.pb, 0, none⟩), X.ds, X.out, .int .i64 (X.last : Int), .int .i64 (X.time : Int), .int .i64 0, .slice none 0 0, X.blocks, .bool X.formed, X.stale, X.knows, .int .i64 (-1), .int .i64 0, .bool false, .bool false, .int .i64 0, .int .i64 (X.done : Int), .bool false, X.bs, X.ks, .int .i64 (X.n : Int), X.cs, X.rs, X.kc, X.kr]
def cmdP (k : Int) : List Value := [.int .i64 (-k), .int .i64 0, .int .i64 0, .int .i64 0, .slice none 0 0]

structure Lw (w : World) (wb : Nat) (X : LX) (us : List Value) (kk : List Int) (cus : List Value) (ckk : List Int) : Prop where
  blk : Blk w wb (lwL X).toArray 56
  bk : Bk w 5 36 bytP X.bs X.ks us kk
  cb : Bk w 91 87 cmdP X.cs X.kc cus ckk
  ne : ∀ g, X.ks.ownBlock = some g → X.kc.ownBlock ≠ some g
/-- the blocks of it -/
def LMem (wb : Nat) (X : LX) (us cus : List Value) (b : Nat) : Prop := b = wb ∨ X.bs.ownBlock = some b ∨ X.ks.ownBlock = some b ∨ X.cs.ownBlock = some b ∨ X.kc.ownBlock = some b ∨ (∃ u ∈ us, u.ownBlock = some b) ∨ ∃ u ∈ cus, u.ownBlock = some b
theorem Lw.chg {Y : Nat → Prop} {w w' : World} {wb : Nat} {X : LX} {us : List Value} {kk : List Int} {cus : List Value} {ckk : List Int} (h : Lw w wb X us kk cus ckk) (hc : Chg Y w w') (hy : ∀ b, LMem wb X us cus b → ¬ Y b) : Lw w' wb X us kk cus ckk :=
  ⟨h.blk.chg hc (hy wb (Or.inl rfl)), h.bk.chg hc (fun g hg => hy g (Or.inr (Or.inl hg))) (fun g hg => hy g (Or.inr (Or.inr (Or.inl hg)))) (fun u hu g hg => hy g (Or.inr (Or.inr (Or.inr (Or.inr (Or.inr (Or.inl ⟨u, hu, hg⟩))))))),
   h.cb.chg hc (fun g hg => hy g (Or.inr (Or.inr (Or.inr (Or.inl hg))))) (fun g hg => hy g (Or.inr (Or.inr (Or.inr (Or.inr (Or.inl hg)))))) (fun u hu g hg => hy g (Or.inr (Or.inr (Or.inr (Or.inr (Or.inr (Or.inr ⟨u, hu, hg⟩))))))), h.ne⟩
theorem Lw.lt {w : World} {wb : Nat} {X : LX} {us : List Value} {kk : List Int} {cus : List Value} {ckk : List Int} (h : Lw w wb X us kk cus ckk) (b : Nat) (hb : LMem wb X us cus b) : b < w.heap.size := by
  rcases hb with rfl | hb | hb | hb | hb | ⟨u, hu, hb⟩ | ⟨u, hu, hb⟩
  · exact h.blk.lt
  · obtain ⟨c, hc⟩ := own_blk h.bk.row b hb; exact hc.lt
  · obtain ⟨c, hc⟩ := own_blk h.bk.key b hb; exact hc.lt
  · obtain ⟨c, hc⟩ := own_blk h.cb.row b hb; exact hc.lt
  · obtain ⟨c, hc⟩ := own_blk h.cb.key b hb; exact hc.lt
  · obtain ⟨c, hc⟩ := h.bk.typ u hu b hb; exact hc.lt
  · obtain ⟨c, hc⟩ := h.cb.typ u hu b hb; exact hc.lt
/-- the types of these blocks -/
def lwT (t : TypeId) : Prop := t = 56 ∨ t = 36 ∨ t = 3 ∨ t = 87 ∨ t = 5 ∨ t = 91
theorem Lw.typ {w : World} {wb : Nat} {X : LX} {us : List Value} {kk : List Int} {cus : List Value} {ckk : List Int} (h : Lw w wb X us kk cus ckk) (b : Nat) (hb : LMem wb X us cus b) : ∃ cs t, Blk w b cs t ∧ lwT t := by
  rcases hb with rfl | hb | hb | hb | hb | ⟨u, hu, hb⟩ | ⟨u, hu, hb⟩
  · exact ⟨_, _, h.blk, Or.inl rfl⟩
  · obtain ⟨c, hc⟩ := own_blk h.bk.row b hb; exact ⟨_, _, hc, Or.inr (Or.inl rfl)⟩
  · obtain ⟨c, hc⟩ := own_blk h.bk.key b hb; exact ⟨_, _, hc, Or.inr (Or.inr (Or.inl rfl))⟩
  · obtain ⟨c, hc⟩ := own_blk h.cb.row b hb; exact ⟨_, _, hc, Or.inr (Or.inr (Or.inr (Or.inl rfl)))⟩
  · obtain ⟨c, hc⟩ := own_blk h.cb.key b hb; exact ⟨_, _, hc, Or.inr (Or.inr (Or.inl rfl))⟩
  · obtain ⟨c, hc⟩ := h.bk.typ u hu b hb; exact ⟨_, _, hc, Or.inr (Or.inr (Or.inr (Or.inr (Or.inl rfl))))⟩
  · obtain ⟨c, hc⟩ := h.cb.typ u hu b hb; exact ⟨_, _, hc, Or.inr (Or.inr (Or.inr (Or.inr (Or.inr rfl))))⟩

/-- a row whose middle is written anew -/
theorem own_mid {w : World} {t : TypeId} {k g n cap o : Nat} {A C R vs : List Value} (h : w.ownsRow 0 t k (.slice (some ⟨g, 0, none⟩) n cap) n (A ++ (C ++ R))) (hA : A.length = o) (hC : vs.length = C.length) : (w.setCells g o vs).ownsRow 0 t k (.slice (some ⟨g, 0, none⟩) n cap) n (A ++ (vs ++ R)) := by
  rcases own_get h with ⟨hh, _⟩ | ⟨g1, cap1, cs, hh, hb, h1, h2, h3, h4, h5⟩
  · cases hh
  · simp only [Value.slice.injEq, Option.some.injEq, Addr.mk.injEq] at hh
    obtain ⟨⟨rfl, _⟩, _, rfl⟩ := hh
    have hle : n * k ≤ cap * k := Nat.mul_le_mul_right _ h1
    refine own_mk (Blk.setCells vs o hb) h1 h2 (by rw [lay_size]; exact h3) (by simp only [List.length_append] at h4 ⊢; omega) (fun j hj => ?_)
    rw [lay_at vs o cs j (by omega)]
    have h6 := h5 j hj
    by_cases q1 : j < o
    · rw [if_neg (by omega), h6, List.getElem?_append_left (by omega), List.getElem?_append_left (by omega)]
    · rw [List.getElem?_append_right (by omega), hA] at h6 ⊢
      by_cases q2 : j < o + vs.length
      · rw [if_pos ⟨by omega, q2⟩, List.getElem?_append_left (by omega)]
      · rw [if_neg (by omega), h6, List.getElem?_append_right (by omega), List.getElem?_append_right (by omega), hC]
theorem cells_len (c : Cmd) : c.cells.length = 5 := rfl
theorem drop_cells (L : List Cmd) (i : Nat) (c : Cmd) (h : L[i]? = some c) : (L.drop i).flatMap Cmd.cells = c.cells ++ (L.drop (i + 1)).flatMap Cmd.cells := by
  obtain ⟨hi, e⟩ := List.getElem?_eq_some_iff.1 h
  rw [List.drop_eq_getElem_cons hi, e, List.flatMap_cons]

end Go.Proofs.YtdcinlkkjbclmaaGreat

/- A list of commands that came out is written full, kept, and looked at later. -/
namespace Go.Proofs.YtdcinlkkjbclmaaGreat
open Go.RowKit

theorem data_ob {w : World} {c : Cmd} (h : DataIn w c) (b : Nat) : c.data.ownBlock = some b ↔ b ∈ dBlk c.data := by
  obtain ⟨xs, ho, _⟩ := h
  rcases own_get ho with ⟨e, _⟩ | ⟨g, cap, cs, e, _⟩
  · rw [e]; simp [Value.ownBlock, dBlk]
  · rw [e]; simp [Value.ownBlock, dBlk, eq_comm]
theorem data_chg {X : Nat → Prop} {w w' : World} {c : Cmd} (h : DataIn w c) (hc : Chg X w w') (hx : ∀ b ∈ dBlk c.data, ¬ X b) : DataIn w' c := by
  obtain ⟨xs, ho, hl, hb⟩ := id h
  exact ⟨xs, own_chg ho hc (fun g hg => hx g ((data_ob h g).1 hg)), hl, hb⟩
theorem data_form {w : World} {c : Cmd} (h : DataIn w c) : ∃ av len cv xs, c.data = .slice av len cv ∧ w.ownsRow 0 5 1 (.slice av len cv) len xs ∧ len ≤ 8 := by
  obtain ⟨xs, ho, hl, hb⟩ := id h
  rcases own_get ho with ⟨e, e2, _⟩ | ⟨g, cap, cs, e, _⟩
  · exact ⟨none, 0, 0, [], e, World.ownsRow_nil _ _ _ _, by omega⟩
  · rw [e] at ho
    exact ⟨_, _, _, _, e, ho, by omega⟩
theorem infoC5 : (Tryz.prog.info? 91).map (fun i => (i.zero, i.size, i.bytes)) = some (some (.agg #[.int .i64 0, .int .i64 0, .int .i64 0, .int .i64 0, .slice none 0 0]), 5, 56) := by kernel_rfl
theorem infoSC : (Tryz.prog.info? 87).map (fun i => (i.zero, i.size, i.bytes)) = some (some (.slice none 0 0), 1, 24) := by kernel_rfl
theorem sizeC : (Tryz.prog.info? 91).map (·.size) = some 5 := by kernel_rfl

/-- in the midst of a list: i commands are written over -/
structure CmdsTo (w wr : World) (wb mb : Nat) (X : LX) (us cus : List Value) (ckk : List Int) (l : Value) (L : List Cmd) (p : List Value) (i : Nat) (bs ks : Value) (us' : List Value) (kk' : List Int) : Prop where
  lw : Lw wr wb { X with n := X.n + i, bs := bs, ks := ks } us' kk' cus ckk
  row : wr.ownsRow 0 91 5 l L.length (repP p i ++ (L.drop i).flatMap Cmd.cells)
  var : Blk wr mb p.toArray 91
  chg : Chg (fun x => LMem wb X us cus x ∨ l.ownBlock = some x ∨ x ∈ dats L) w wr
  dat : ∀ (j : Nat) (c : Cmd), i ≤ j → L[j]? = some c → DataIn wr c
  mem : ∀ b, LMem wb { X with n := X.n + i, bs := bs, ks := ks } us' cus b → LMem wb X us cus b ∨ (∃ (j : Nat) (c : Cmd), j < i ∧ L[j]? = some c ∧ b ∈ dBlk c.data) ∨ w.heap.size ≤ b
  num : us'.length = us.length + 4 * i

theorem nodup_at {L : List Cmd} (h : (dats L).Nodup) {i j : Nat} {c d : Cmd} (hi : L[i]? = some c) (hj : L[j]? = some d) (hne : i ≠ j) (b : Nat) (hb : b ∈ dBlk c.data) : b ∉ dBlk d.data := by
  induction L generalizing i j with
  | nil => simp at hi
  | cons x r ih =>
    have h' : (dBlk x.data ++ dats r).Nodup := h
    rw [List.nodup_append] at h'
    obtain ⟨h1, h2, h3⟩ := h'
    have hin : ∀ (k : Nat) (e : Cmd), r[k]? = some e → ∀ y ∈ dBlk e.data, y ∈ dats r := fun k e hk y hy => dats_mem.2 ⟨e, List.mem_of_getElem? hk, hy⟩
    match i, j, hi, hj, hne with
    | 0, 0, _, _, hne => exact absurd rfl hne
    | 0, j + 1, hi, hj, _ =>
      simp at hi hj
      subst hi
      exact fun hd => h3 b hb b (hin j d hj b hd) rfl
    | i + 1, 0, hi, hj, _ =>
      simp at hi hj
      subst hj
      exact fun hd => h3 b hd b (hin i c hi b hb) rfl
    | i + 1, j + 1, hi, hj, hne =>
      simp at hi hj
      exact ih h2 hi hj (by omega)

theorem own_lw {w w' : World} {wb : Nat} {X : LX} {us : List Value} {kk : List Int} {cus : List Value} {ckk : List Int} {v bs' kv' a b c d : Value} (h : Lw w wb X us kk cus ckk) (ho : OwnedB w w' wb (lwL X).toArray X.bs X.ks us kk X.n v bs' kv' a b c d) (hv : ∀ g, v.ownBlock = some g → ∃ cs, Blk w g cs 5) :
    Lw w' wb { X with n := X.n + 1, bs := bs', ks := kv' } (us ++ [a, b, c, d]) (kk ++ [(X.n : Int) + 1, (X.n : Int) + 1, (X.n : Int) + 1, (X.n : Int) + 1]) cus ckk := by
  have T : ∀ g c t', Blk w g c t' → t' ≠ 56 → t' ≠ 36 → t' ≠ 5 → X.ks.ownBlock ≠ some g → ¬ (g = wb ∨ v.ownBlock = some g ∨ X.bs.ownBlock = some g ∨ X.ks.ownBlock = some g) := fun g c t' hb h1 h2 h3 h4 hX => by
    rcases hX with rfl | hX | hX | hX
    · exact h1 (Blk.same hb h.blk).2
    · obtain ⟨c', hc'⟩ := hv g hX
      exact h3 (Blk.same hb hc').2
    · obtain ⟨c', hc'⟩ := own_blk h.bk.row g hX
      exact h2 (Blk.same hb hc').2
    · exact h4 hX
  have K : ∀ g c t', Blk w g c t' → t' ≠ 3 → X.ks.ownBlock ≠ some g := fun g c t' hb ht e => by
    obtain ⟨c', hc'⟩ := own_blk h.bk.key g e
    exact ht (Blk.same hb hc').2
  refine ⟨ho.blk, ho.bk, h.cb.chg ho.chg (fun g hg => ?_) (fun g hg => ?_) (fun u hu g hg => ?_), fun g hg e => ?_⟩
  · obtain ⟨c, hc⟩ := own_blk h.cb.row g hg
    exact T g c _ hc (by decide) (by decide) (by decide) (K g c _ hc (by decide))
  · obtain ⟨c, hc⟩ := own_blk h.cb.key g hg
    exact T g c _ hc (by decide) (by decide) (by decide) (fun e => h.ne g e hg)
  · obtain ⟨c, hc⟩ := h.cb.typ u hu g hg
    exact T g c _ hc (by decide) (by decide) (by decide) (K g c _ hc (by decide))
  · rcases ho.kvn g hg with q | q
    · exact h.ne g q e
    · obtain ⟨c, hc⟩ := own_blk h.cb.key g e
      have := hc.lt
      omega
theorem own_lmem {w w' : World} {wb : Nat} {X : LX} {us : List Value} {kk : List Int} {cus : List Value} {v bs' kv' a b c d : Value} (ho : OwnedB w w' wb (lwL X).toArray X.bs X.ks us kk X.n v bs' kv' a b c d) (x : Nat) (hx : LMem wb { X with n := X.n + 1, bs := bs', ks := kv' } (us ++ [a, b, c, d]) cus x) : LMem wb X us cus x ∨ v.ownBlock = some x ∨ w.heap.size ≤ x := by
  rcases hx with hx | hx | hx | hx | hx | ⟨u, hu, hx⟩ | hx
  · exact Or.inl (Or.inl hx)
  · rcases ho.bsn x hx with q | q
    · exact Or.inl (Or.inr (Or.inl q))
    · exact Or.inr (Or.inr q)
  · rcases ho.kvn x hx with q | q
    · exact Or.inl (Or.inr (Or.inr (Or.inl q)))
    · exact Or.inr (Or.inr q)
  · exact Or.inl (Or.inr (Or.inr (Or.inr (Or.inl hx))))
  · exact Or.inl (Or.inr (Or.inr (Or.inr (Or.inr (Or.inl hx)))))
  · rcases List.mem_append.1 hu with q | q
    · exact Or.inl (Or.inr (Or.inr (Or.inr (Or.inr (Or.inr (Or.inl ⟨u, q, hx⟩))))))
    · exact Or.inr (ho.usn u q x hx)
  · exact Or.inl (Or.inr (Or.inr (Or.inr (Or.inr (Or.inr (Or.inr hx))))))
theorem own_chgM {w w' : World} {wb : Nat} {X : LX} {us : List Value} {kk : List Int} {cus : List Value} {v bs' kv' a b c d : Value} (ho : OwnedB w w' wb (lwL X).toArray X.bs X.ks us kk X.n v bs' kv' a b c d) : Chg (fun x => LMem wb X us cus x ∨ v.ownBlock = some x) w w' :=
  ho.chg.mono (fun x _ hx => by
    rcases hx with hx | hx | hx | hx
    · exact Or.inl (Or.inl hx)
    · exact Or.inr hx
    · exact Or.inl (Or.inr (Or.inl hx))
    · exact Or.inl (Or.inr (Or.inr (Or.inl hx))))

set_option maxRecDepth 100000 in
set_option maxHeartbeats 8000000 in
theorem cmds_any (wb : Nat) (X : LX) (us : List Value) (kk : List Int) (cus : List Value) (ckk : List Int) (la : Option Addr) (cap len : Nat) (L : List Cmd) (w : World) (h : Lw w wb X us kk cus ckk) (hlen : L.length = len) (hl : w.ownsRow 0 91 5 (.slice la len cap) len (L.flatMap Cmd.cells)) (hL : len ≤ 8) (hd : ∀ c ∈ L, DataIn w c) (hnd : (dats L).Nodup) (hfd : ∀ b ∈ dats L, ¬ LMem wb X us cus b) (hfl : ∀ b, (Value.slice la len cap).ownBlock = some b → ¬ LMem wb X us cus b) (hn : X.n ≤ 100) (hus : us.length ≤ 800) (hcu : cus.length ≤ 900) :
    Calls Tryz.prog 49 #[.pointer (some ⟨wb, 0, none⟩), .slice la len cap] w fun e w' => e = .returned (.tuple #[]) ∧ ∃ bs ks cs kc us' kk' a b c d,
      Lw w' wb { X with n := X.n + len, bs := bs, ks := ks, cs := cs, kc := kc } us' kk' (cus ++ [a, b, c, d]) (ckk ++ [(cus.length : Int) + 1, (cus.length : Int) + 1, (cus.length : Int) + 1, (cus.length : Int) + 1]) ∧ us'.length = us.length + 4 * len ∧
      Chg (fun x => LMem wb X us cus x ∨ (Value.slice la len cap).ownBlock = some x ∨ x ∈ dats L) w w' ∧
      ∀ x, LMem wb { X with n := X.n + len, bs := bs, ks := ks, cs := cs, kc := kc } us' (cus ++ [a, b, c, d]) x → LMem wb X us cus x ∨ (Value.slice la len cap).ownBlock = some x ∨ x ∈ dats L ∨ w.heap.size ≤ x := by
  have q27 : w.cell? ⟨wb, 27, none⟩ = some X.cs := h.blk.cell 27
  obtain ⟨ca, cc, hcs⟩ : ∃ ca cc, X.cs = .slice ca cus.length cc := by
    rcases own_get h.cb.row with ⟨e, e2, _⟩ | ⟨g, cp, c, e, _⟩
    · exact ⟨none, 0, by rw [e, e2]⟩
    · exact ⟨_, _, e⟩
  rw [hcs] at q27
  have hb0 := (Below.refl w.heap.size w).alloc (Nat.le_refl _) (.cells #[.int .i64 (-((cus.length : Int) + 1)), .int .i64 0, .int .i64 0, .int .i64 0, .slice none 0 0] 91)
  have hk0 := Blk.new w #[.int .i64 (-((cus.length : Int) + 1)), .int .i64 0, .int .i64 0, .int .i64 0, .slice none 0 0] 91
  have hlt := h.lt
  have ST : CmdsTo w (w.alloc (.cells #[.int .i64 (-((cus.length : Int) + 1)), .int .i64 0, .int .i64 0, .int .i64 0, .slice none 0 0] 91)) wb w.heap.size X us cus ckk (.slice la len cap) L (cmdP ((cus.length : Int) + 1)) 0 X.bs X.ks us kk :=
    ⟨h.chg (Y := fun _ => False) (Chg.of_new hb0) (fun _ _ => id), by rw [hlen]; exact own_chg hl (Chg.of_new (X := fun _ => False) hb0) (fun _ _ => id), hk0, Chg.of_new hb0, fun j c _ hc => data_chg (hd c (List.mem_of_getElem? hc)) (Chg.of_new (X := fun _ => False) hb0) (fun _ _ => id), fun b hb => Or.inl hb, by omega⟩
  have HST := hide ST
  have HFD := hide hfd
  have HFL := hide hfl
  have HND := hide hnd
  have HLT := hide hlt
  have HTY := hide h.typ
  have HDL : Hid (∀ b ∈ dats L, b < w.heap.size) := fun b hb => by
    obtain ⟨c, hc, hb⟩ := dats_mem.1 hb
    exact (hd c hc).lt b hb
  have HLD : Hid (∀ b, (Value.slice la len cap).ownBlock = some b → b ∉ dats L) := fun b hb hdb => by
    obtain ⟨c, hc⟩ := own_blk hl b hb
    obtain ⟨x, hx, hxb⟩ := dats_mem.1 hdb
    obtain ⟨xs, ho, _⟩ := id (hd x hx)
    obtain ⟨c', hc'⟩ := own_blk ho b ((data_ob (hd x hx) b).2 hxb)
    exact (by decide : 91 ≠ 5) (Blk.same hc hc').2
  have HLL : Hid (∀ b, (Value.slice la len cap).ownBlock = some b → b < w.heap.size) := fun b hb => by
    obtain ⟨c, hc⟩ := own_blk hl b hb
    exact hc.lt
  clear h hl hd hb0 hk0 hlt ST hfd hfl hnd
  have hcu1 : (cus.length : Int) ≤ 900 := by omega
  go_enter Tryz.func49, Tryz.ntmps49
  go_wp2
  clear q27
  go_loopw [6] (fun iv wr => ∃ (i : Nat) (bs ks : Value) (us' : List Value) (kk' : List Int), i ≤ len ∧ iv = .int .i64 (i : Int) ∧ CmdsTo w wr wb w.heap.size X us cus ckk (.slice la len cap) L (cmdP ((cus.length : Int) + 1)) i bs ks us' kk') (fun i _ => len - (intOf i).toNat)
  case atStart => exact ⟨0, X.bs, X.ks, us, kk, Nat.zero_le _, rfl, unhide HST⟩
  case round =>
    clear HST
    obtain ⟨i, bs, ks, us', kk', hi, rfl, hto⟩ := hrel
    rcases Nat.lt_or_ge i len with hlt | hge
    · obtain ⟨c, hc⟩ : ∃ c, L[i]? = some c := ⟨_, List.getElem?_eq_getElem (by omega)⟩
      have hdi := hto.dat i c (Nat.le_refl _) hc
      obtain ⟨av, dl, cv, xs, hce, hrow, hdl⟩ := data_form hdi
      have hrl := hto.row
      rw [drop_cells L i c hc, hlen] at hrl
      obtain ⟨lb, cap', hge', _, _⟩ := hrl.form (by omega)
      simp only [Value.slice.injEq] at hge'
      obtain ⟨rfl, _, rfl⟩ := hge'
      have hbl := own_blk hrl lb rfl
      have hrep : (repP (cmdP ((cus.length : Int) + 1)) i).length = i * 5 := rep_len _ _
      have d4 : wr.cell? ⟨lb, i * 5 + 4, none⟩ = some c.data := by
        have := hrl.cellAt (i * 5 + 4) (by omega)
        rw [List.getElem?_append_right (by omega), hrep, show i * 5 + 4 - i * 5 = 4 by omega] at this
        exact this
      rw [hce] at d4
      have hun : us'.length ≤ 1000 := by have := hto.num; omega
      have hcfr : ∀ u ∈ us', ∀ g, u.ownBlock = some g → (Value.slice av dl cv).ownBlock ≠ some g := fun u hu g hg e => by
        rw [← hce] at e
        have hb := (data_ob hdi g).1 e
        rcases hto.mem g (Or.inr (Or.inr (Or.inr (Or.inr (Or.inr (Or.inl ⟨u, hu, hg⟩)))))) with q | ⟨j, c', hj, hc', q⟩ | q
        · exact unhide HFD g (dats_mem.2 ⟨c, List.mem_of_getElem? hc, hb⟩) q
        · exact nodup_at (unhide HND) hc' hc (by omega) g q hb
        · have := unhide HDL g (dats_mem.2 ⟨c, List.mem_of_getElem? hc, hb⟩)
          omega
      have HOW := hide (own_any wb (lwL { X with n := X.n + i, bs := bs, ks := ks }).toArray bs ks us' kk' (X.n + i) av dl cv xs wr.drew hto.lw.blk.drew rfl rfl rfl rfl (hto.lw.bk.chg (X := fun _ => False) (Chg.refl _ _).drew (fun _ _ => id) (fun _ _ => id) (fun _ _ _ _ => id)) hrow hdl hcfr (by omega) hun)
      have HTO := hide hto
      have HRL := hide hrl
      have HBL := hide hbl
      have HDI := hide hdi
      have HDT := hide (own_blk hrow)
      have ii0 : (0 : Int) ≤ (i : Int) := by omega
      have ii1 : (i : Int) < (len : Int) := by omega
      clear hto hrow hrl hbl hdi hcfr
      go_wp2_with fail
      refine region_tail 8 (by kernel_rfl) (by kernel_rfl) ?_
      rintro w4 hw4
      obtain rfl := hw4
      simp only [List.take_succ_cons, List.take_zero, List.drop_succ_cons, List.drop_zero]
      have d5 : wr.drew.cell? ⟨lb, i * 5 + 4, none⟩ = some (.slice av dl cv) := d4
      repeat (refine wpStill_step (fun K hK => ?_); go_simp; (try go_ints); refine hK _ ?_; clear hK K)
      refine wpStill_nil ?_
      go_wp2_with fail
      refine (unhide HOW).mono ?_
      rintro e w2 ⟨rfl, bs2, ks2, a2, b2, c2, d2, ho⟩
      have hto := unhide HTO
      have hown' : OwnedB wr w2 wb (lwL { X with n := X.n + i, bs := bs, ks := ks }).toArray bs ks us' kk' (X.n + i) (.slice av dl cv) bs2 ks2 a2 b2 c2 d2 := ⟨ho.blk, ho.bk, ⟨ho.chg.os, ho.chg.tape, ho.chg.output, ho.chg.size, ho.chg.block⟩, ho.bsn, ho.kvn, ho.usn⟩
      have hdt := unhide HDT
      have T2 : ∀ g c t', Blk wr g c t' → t' ≠ 56 → t' ≠ 36 → t' ≠ 5 → t' ≠ 3 → ¬ (g = wb ∨ (Value.slice av dl cv).ownBlock = some g ∨ bs.ownBlock = some g ∨ ks.ownBlock = some g) := fun g c t' hb h1 h2 h3 h4 hX => by
        rcases hX with rfl | hX | hX | hX
        · exact h1 (Blk.same hb hto.lw.blk).2
        · obtain ⟨c', hc'⟩ := hdt g hX
          exact h3 (Blk.same hb hc').2
        · obtain ⟨c', hc'⟩ := own_blk hto.lw.bk.row g hX
          exact h2 (Blk.same hb hc').2
        · obtain ⟨c', hc'⟩ := own_blk hto.lw.bk.key g hX
          exact h4 (Blk.same hb hc').2
      have LW2 := own_lw hto.lw hown' hdt
      have V2 := hto.var.chg hown'.chg (T2 _ _ _ hto.var (by decide) (by decide) (by decide) (by decide))
      have R2 := own_chg (unhide HRL) hown'.chg (fun g hg => by
        obtain ⟨c', hc'⟩ := own_blk (unhide HRL) g hg
        exact T2 g c' _ hc' (by decide) (by decide) (by decide) (by decide))
      have m0 : w2.cell? ⟨w.heap.size, 0, none⟩ = some (.int .i64 (-((cus.length : Int) + 1))) := V2.cell 0
      have m1 : w2.cell? ⟨w.heap.size, 1, none⟩ = some (.int .i64 0) := V2.cell 1
      have m2 : w2.cell? ⟨w.heap.size, 2, none⟩ = some (.int .i64 0) := V2.cell 2
      have m3 : w2.cell? ⟨w.heap.size, 3, none⟩ = some (.int .i64 0) := V2.cell 3
      have m4 : w2.cell? ⟨w.heap.size, 4, none⟩ = some (.slice none 0 0) := V2.cell 4
      obtain ⟨csl, hcsl⟩ := own_blk R2 lb rfl
      have hcz : csl.size = cap * 5 ∧ len ≤ cap := by
        rcases own_get R2 with ⟨hh, _⟩ | ⟨g1, cap1, cs1, hh, hb1, r1, r2, r3, _⟩
        · cases hh
        · simp only [Value.slice.injEq, Option.some.injEq, Addr.mk.injEq] at hh
          obtain ⟨⟨rfl, _⟩, _, rfl⟩ := hh
          obtain ⟨rfl, _⟩ := Blk.same hcsl hb1
          exact ⟨r3, r1⟩
      have hth : w2.there lb (i * 5) 5 := hcsl.there (i * 5) 5 (by rw [hcz.1]; have := hcz.2; omega)
      have NEW : CmdsTo w (w2.setCells lb (i * 5) (cmdP ((cus.length : Int) + 1))) wb w.heap.size X us cus ckk (.slice (some ⟨lb, 0, none⟩) len cap) L (cmdP ((cus.length : Int) + 1)) (i + 1) bs2 ks2 (us' ++ [a2, b2, c2, d2]) (kk' ++ [((X.n + i : Nat) : Int) + 1, ((X.n + i : Nat) : Int) + 1, ((X.n + i : Nat) : Int) + 1, ((X.n + i : Nat) : Int) + 1]) := by
        have hwr := hto.chg.size
        have hlbw := unhide HLL lb rfl
        have hmi : ∀ x, LMem wb { X with n := X.n + i, bs := bs, ks := ks } us' cus x ∨ (Value.slice av dl cv).ownBlock = some x → LMem wb X us cus x ∨ (∃ (j : Nat) (c : Cmd), j < i + 1 ∧ L[j]? = some c ∧ x ∈ dBlk c.data) ∨ w.heap.size ≤ x := fun x hx => by
          rcases hx with hx | hx
          · rcases hto.mem x hx with q | ⟨j, c', hj, hc', q⟩ | q
            · exact Or.inl q
            · exact Or.inr (Or.inl ⟨j, c', by omega, hc', q⟩)
            · exact Or.inr (Or.inr q)
          · rw [← hce] at hx
            exact Or.inr (Or.inl ⟨i, c, by omega, hc, (data_ob (unhide HDI) x).1 hx⟩)
        have hm2 : ∀ x, LMem wb { X with n := X.n + (i + 1), bs := bs2, ks := ks2 } (us' ++ [a2, b2, c2, d2]) cus x → LMem wb X us cus x ∨ (∃ (j : Nat) (c : Cmd), j < i + 1 ∧ L[j]? = some c ∧ x ∈ dBlk c.data) ∨ w.heap.size ≤ x := fun x hx => by
          rcases own_lmem (cus := cus) hown' x hx with q | q | q
          · exact hmi x (Or.inl q)
          · exact hmi x (Or.inr q)
          · exact Or.inr (Or.inr (by omega))
        have hCl : Chg (fun x => x = lb) w2 (w2.setCells lb (i * 5) (cmdP ((cus.length : Int) + 1))) := Chg.setCells (X := fun x => x = lb) (Chg.refl _ w2) lb (i * 5) _ (Or.inl rfl)
        refine ⟨LW2.chg hCl (fun b hb e => ?_), ?_, V2.setCells_other lb _ _ (by omega), ?_, fun j c' hj hc' => ?_, hm2, by simp [hto.num]; omega⟩
        · subst e
          rcases hm2 b hb with q | ⟨j, c', _, hc', q⟩ | q
          · exact unhide HFL b rfl q
          · exact unhide HLD b rfl (dats_mem.2 ⟨c', List.mem_of_getElem? hc', q⟩)
          · omega
        · rw [hlen, rep_succ, List.append_assoc]
          exact own_mid R2 hrep rfl
        · refine (hto.chg.trans (own_chgM (cus := cus) hown') (fun x hx => ?_)).setCells _ _ _ (Or.inl (Or.inr (Or.inl rfl)))
          rcases hmi x hx with q | ⟨j, c', _, hc', q⟩ | q
          · exact Or.inl (Or.inl q)
          · exact Or.inl (Or.inr (Or.inr (dats_mem.2 ⟨c', List.mem_of_getElem? hc', q⟩)))
          · exact Or.inr q
        · have hdj := hto.dat j c' (by omega) hc'
          refine data_chg (data_chg hdj (own_chgM (cus := cus) hown') (fun b hb hx => ?_)) hCl (fun b hb e => ?_)
          · have hbd : b ∈ dats L := dats_mem.2 ⟨c', List.mem_of_getElem? hc', hb⟩
            rcases hmi b hx with q | ⟨j2, c2', hj2, hc2', q⟩ | q
            · exact unhide HFD b hbd q
            · exact nodup_at (unhide HND) hc2' hc' (by omega) b q hb
            · have := unhide HDL b hbd
              omega
          · subst e
            exact unhide HLD b rfl (dats_mem.2 ⟨c', List.mem_of_getElem? hc', hb⟩)
      have HNEW := hide NEW
      have HTH := hide hth
      clear hto ho hown' T2 LW2 V2 R2 hcsl hcz hth NEW HTO HRL HBL HDI HDT HOW hdt d4 d5
      go_wp2_with (show wpList _ _ _ (Oper.mk none (Op.store 91 _ _) _ _ _ _ :: _) _ _; refine wpList_store_mid rfl 91 _ _ rfl lb (i * 5) (cmdP ((cus.length : Int) + 1)).toArray rfl rfl (unhide HTH) sizeC (by simp [cmdP, Value.oneCell']) ?_)
      exact ⟨⟨i + 1, _, _, _, _, by omega, by go_num, unhide HNEW⟩, by simp [intOf]; omega⟩
    · have hil : i = len := by omega
      subst hil
      have hrw := hto.row
      rw [show L.drop i = [] from List.drop_eq_nil_of_le (by omega), List.flatMap_nil, List.append_nil, hlen] at hrw
      have P0 := hide (pat_own (p := cmdP ((cus.length : Int) + 1)) hrw)
      have HVT := hide (own_blk hrw)
      have HVM := hide hto.var
      obtain ⟨X0, hX0⟩ : ∃ X0, repP (cmdP ((cus.length : Int) + 1)) i = X0 := ⟨_, rfl⟩
      rw [hX0] at hrw
      have HX0 := hide hX0
      have O0 := hide hrw
      have CC0 := hide (Chg.refl (fun x => (Value.slice la i cap).ownBlock = some x) wr)
      have NN0 : Hid (∀ g, (Value.slice la i cap).ownBlock = some g → (Value.slice la i cap).ownBlock = some g ∨ wr.heap.size ≤ g) := fun g hg => Or.inl hg
      have HTO := hide hto
      have HML : Hid (∀ b, (Value.slice la i cap).ownBlock = some b → b ≠ w.heap.size) := fun b hb e => by have := unhide HLL b hb; omega
      clear hto hrw hX0
      have vm : Blk wr w.heap.size #[.int .i64 (-((cus.length : Int) + 1)), .int .i64 0, .int .i64 0, .int .i64 0, .slice none 0 0] 91 := (unhide HVM).chg (unhide CC0) (fun h => unhide HML _ h rfl)
      have m0 : wr.cell? ⟨w.heap.size, 0, none⟩ = some (.int .i64 (-((cus.length : Int) + 1))) := vm.cell 0
      have m1 : wr.cell? ⟨w.heap.size, 1, none⟩ = some (.int .i64 0) := vm.cell 1
      have m2 : wr.cell? ⟨w.heap.size, 2, none⟩ = some (.int .i64 0) := vm.cell 2
      have m3 : wr.cell? ⟨w.heap.size, 3, none⟩ = some (.int .i64 0) := vm.cell 3
      have m4 : wr.cell? ⟨w.heap.size, 4, none⟩ = some (.slice none 0 0) := vm.cell 4
      have hal := (Below.refl wr.heap.size wr).alloc (Nat.le_refl _) (.cells #[.int .i64 (-((cus.length : Int) + 1)), .int .i64 0, .int .i64 0, .int .i64 0, .slice none 0 0] 91)
      have OO := hide (own_chg (unhide O0) (Chg.of_new (X := fun _ => False) hal) (fun _ _ => id))
      have NB := hide (news_blk (Blk.new wr #[.int .i64 (-((cus.length : Int) + 1)), .int .i64 0, .int .i64 0, .int .i64 0, .slice none 0 0] 91))
      clear hal vm
      go_wp2_with (at_builtin; refine wpList_append_grew rfl (.tmp 38) (.tmp 40) 87 rfl 91 (.agg #[.int .i64 0, .int .i64 0, .int .i64 0, .int .i64 0, .slice none 0 0]) 5 56 Tryz.underlying87 infoC5 rfl (by decide) (.slice la i cap) (i) X0 rfl (unhide OO) ⟨wr.heap.size, 0, none⟩ 1 1 [.int .i64 (-((cus.length : Int) + 1)), .int .i64 0, .int .i64 0, .int .i64 0, .slice none 0 0] rfl rfl (unhide NB) (by intro u hu; simp only [List.mem_cons, List.not_mem_nil, or_false] at hu; rcases hu with rfl | rfl | rfl | rfl | rfl <;> rfl) (by decide) (by omega) (by decide) ?_)
      intro g1 c1 w2 hg1
      rw [← unhide HX0] at hg1
      obtain ⟨o1, C1, n1, k1⟩ := next_of (p := cmdP ((cus.length : Int) + 1)) (unhide CC0) (unhide NN0) hg1
      have P0 := hide (k1 _ _ (unhide P0) (by omega))
      have P1 := hide (pat_own (p := cmdP ((cus.length : Int) + 1)) o1)
      obtain ⟨X1, hX1⟩ : ∃ X1, repP (cmdP ((cus.length : Int) + 1)) (i + 1) = X1 := ⟨_, rfl⟩
      rw [hX1] at o1
      have HX1 := hide hX1
      have O1 := hide o1
      have CC1 := hide C1
      have NN1 := hide n1
      clear o1 hX1 C1 n1 k1 hg1 OO NB O0 HX0 CC0 m0 m1 m2 m3 m4
      have vm : Blk w2 w.heap.size #[.int .i64 (-((cus.length : Int) + 1)), .int .i64 0, .int .i64 0, .int .i64 0, .slice none 0 0] 91 := (unhide HVM).chg (unhide CC1) (fun h => unhide HML _ h rfl)
      have m0 : w2.cell? ⟨w.heap.size, 0, none⟩ = some (.int .i64 (-((cus.length : Int) + 1))) := vm.cell 0
      have m1 : w2.cell? ⟨w.heap.size, 1, none⟩ = some (.int .i64 0) := vm.cell 1
      have m2 : w2.cell? ⟨w.heap.size, 2, none⟩ = some (.int .i64 0) := vm.cell 2
      have m3 : w2.cell? ⟨w.heap.size, 3, none⟩ = some (.int .i64 0) := vm.cell 3
      have m4 : w2.cell? ⟨w.heap.size, 4, none⟩ = some (.slice none 0 0) := vm.cell 4
      have hal := (Below.refl w2.heap.size w2).alloc (Nat.le_refl _) (.cells #[.int .i64 (-((cus.length : Int) + 1)), .int .i64 0, .int .i64 0, .int .i64 0, .slice none 0 0] 91)
      have OO := hide (own_chg (unhide O1) (Chg.of_new (X := fun _ => False) hal) (fun _ _ => id))
      have NB := hide (news_blk (Blk.new w2 #[.int .i64 (-((cus.length : Int) + 1)), .int .i64 0, .int .i64 0, .int .i64 0, .slice none 0 0] 91))
      clear hal vm
      go_wp2_with (at_builtin; refine wpList_append_grew rfl (.tmp 42) (.tmp 44) 87 rfl 91 (.agg #[.int .i64 0, .int .i64 0, .int .i64 0, .int .i64 0, .slice none 0 0]) 5 56 Tryz.underlying87 infoC5 rfl (by decide) (.slice (some ⟨g1, 0, none⟩) (i + 1) c1) (i + 1) X1 rfl (unhide OO) ⟨w2.heap.size, 0, none⟩ 1 1 [.int .i64 (-((cus.length : Int) + 1)), .int .i64 0, .int .i64 0, .int .i64 0, .slice none 0 0] rfl rfl (unhide NB) (by intro u hu; simp only [List.mem_cons, List.not_mem_nil, or_false] at hu; rcases hu with rfl | rfl | rfl | rfl | rfl <;> rfl) (by decide) (by omega) (by decide) ?_)
      intro g2 c2 w3 hg2
      rw [← unhide HX1] at hg2
      obtain ⟨o2, C2, n2, k2⟩ := next_of (p := cmdP ((cus.length : Int) + 1)) (unhide CC1) (unhide NN1) hg2
      have P0 := hide (k2 _ _ (unhide P0) (by omega))
      have P1 := hide (k2 _ _ (unhide P1) (by omega))
      have P2 := hide (pat_own (p := cmdP ((cus.length : Int) + 1)) o2)
      obtain ⟨X2, hX2⟩ : ∃ X2, repP (cmdP ((cus.length : Int) + 1)) (i + 1 + 1) = X2 := ⟨_, rfl⟩
      rw [hX2] at o2
      have HX2 := hide hX2
      have O2 := hide o2
      have CC2 := hide C2
      have NN2 := hide n2
      clear o2 hX2 C2 n2 k2 hg2 OO NB O1 HX1 CC1 m0 m1 m2 m3 m4
      have vm : Blk w3 w.heap.size #[.int .i64 (-((cus.length : Int) + 1)), .int .i64 0, .int .i64 0, .int .i64 0, .slice none 0 0] 91 := (unhide HVM).chg (unhide CC2) (fun h => unhide HML _ h rfl)
      have m0 : w3.cell? ⟨w.heap.size, 0, none⟩ = some (.int .i64 (-((cus.length : Int) + 1))) := vm.cell 0
      have m1 : w3.cell? ⟨w.heap.size, 1, none⟩ = some (.int .i64 0) := vm.cell 1
      have m2 : w3.cell? ⟨w.heap.size, 2, none⟩ = some (.int .i64 0) := vm.cell 2
      have m3 : w3.cell? ⟨w.heap.size, 3, none⟩ = some (.int .i64 0) := vm.cell 3
      have m4 : w3.cell? ⟨w.heap.size, 4, none⟩ = some (.slice none 0 0) := vm.cell 4
      have hal := (Below.refl w3.heap.size w3).alloc (Nat.le_refl _) (.cells #[.int .i64 (-((cus.length : Int) + 1)), .int .i64 0, .int .i64 0, .int .i64 0, .slice none 0 0] 91)
      have OO := hide (own_chg (unhide O2) (Chg.of_new (X := fun _ => False) hal) (fun _ _ => id))
      have NB := hide (news_blk (Blk.new w3 #[.int .i64 (-((cus.length : Int) + 1)), .int .i64 0, .int .i64 0, .int .i64 0, .slice none 0 0] 91))
      clear hal vm
      go_wp2_with (at_builtin; refine wpList_append_grew rfl (.tmp 46) (.tmp 48) 87 rfl 91 (.agg #[.int .i64 0, .int .i64 0, .int .i64 0, .int .i64 0, .slice none 0 0]) 5 56 Tryz.underlying87 infoC5 rfl (by decide) (.slice (some ⟨g2, 0, none⟩) (i + 1 + 1) c2) (i + 1 + 1) X2 rfl (unhide OO) ⟨w3.heap.size, 0, none⟩ 1 1 [.int .i64 (-((cus.length : Int) + 1)), .int .i64 0, .int .i64 0, .int .i64 0, .slice none 0 0] rfl rfl (unhide NB) (by intro u hu; simp only [List.mem_cons, List.not_mem_nil, or_false] at hu; rcases hu with rfl | rfl | rfl | rfl | rfl <;> rfl) (by decide) (by omega) (by decide) ?_)
      intro g3 c3 w4 hg3
      rw [← unhide HX2] at hg3
      obtain ⟨o3, C3, n3, k3⟩ := next_of (p := cmdP ((cus.length : Int) + 1)) (unhide CC2) (unhide NN2) hg3
      have P0 := hide (k3 _ _ (unhide P0) (by omega))
      have P1 := hide (k3 _ _ (unhide P1) (by omega))
      have P2 := hide (k3 _ _ (unhide P2) (by omega))
      have P3 := hide (pat_own (p := cmdP ((cus.length : Int) + 1)) o3)
      have NN3 := hide n3
      have hto := unhide HTO
      have hs4 := C3.size
      have hsw := hto.chg.size
      have hLM : ∀ b, (Value.slice la i cap).ownBlock = some b → ¬ LMem wb { X with n := X.n + i, bs := bs, ks := ks } us' cus b := fun b hb hm => by
        rcases hto.mem b hm with q | ⟨j, c', _, hc', q⟩ | q
        · exact unhide HFL b hb q
        · exact unhide HLD b hb (dats_mem.2 ⟨c', List.mem_of_getElem? hc', q⟩)
        · have := unhide HLL b hb
          omega
      have LW4 := hto.lw.chg C3 (fun b hm hb => hLM b hb hm)
      have c27 : w4.cell? ⟨wb, 27, none⟩ = some (.slice ca cus.length cc) := (LW4.blk.cell 27).trans (by show some X.cs = _; rw [hcs])
      have R4 : w4.ownsRow 0 87 1 (.slice ca cus.length cc) cus.length cus := by have := LW4.cb.row; rw [show ({ X with n := X.n + i, bs := bs, ks := ks } : LX).cs = .slice ca cus.length cc from hcs] at this; exact this
      have hal := (Below.refl w4.heap.size w4).alloc (Nat.le_refl _) (.cells #[.slice la i cap, .slice (some ⟨g1, 0, none⟩) (i + 1) c1, .slice (some ⟨g2, 0, none⟩) (i + 1 + 1) c2, .slice (some ⟨g3, 0, none⟩) (i + 1 + 1 + 1) c3] 87)
      have O4 := hide (own_chg R4 (Chg.of_new (X := fun _ => False) hal) (fun _ _ => id))
      have N4 := hide (news_blk (Blk.new w4 #[.slice la i cap, .slice (some ⟨g1, 0, none⟩) (i + 1) c1, .slice (some ⟨g2, 0, none⟩) (i + 1 + 1) c2, .slice (some ⟨g3, 0, none⟩) (i + 1 + 1 + 1) c3] 87))
      have HL4 := hide LW4
      have HR4 := hide R4
      have HC3 := hide C3
      clear o3 n3 k3 hg3 OO NB O2 HX2 CC2 m0 m1 m2 m3 m4 hal LW4 R4 C3 hLM hto HVM HVT
      go_wp2_with (at_builtin; refine wpList_append_grew rfl (.tmp 54) (.tmp 59) 53 rfl 87 (.slice none 0 0) 1 24 Tryz.underlying53 infoSC rfl (by decide) (.slice ca cus.length cc) cus.length cus rfl (unhide O4) ⟨w4.heap.size, 0, none⟩ 4 4 [.slice la i cap, .slice (some ⟨g1, 0, none⟩) (i + 1) c1, .slice (some ⟨g2, 0, none⟩) (i + 1 + 1) c2, .slice (some ⟨g3, 0, none⟩) (i + 1 + 1 + 1) c3] rfl rfl (unhide N4) (by intro u hu; simp only [List.mem_cons, List.not_mem_nil, or_false] at hu; rcases hu with rfl | rfl | rfl | rfl <;> rfl) (by decide) (by omega) (by decide) ?_)
      intro gb cb w5 hg5
      clear c27
      have C5 : Chg (fun x => (Value.slice ca cus.length cc).ownBlock = some x) w4 w5 := ((Chg.refl _ _).alloc _).trans hg5.chg (fun k h => Or.inl h)
      have hcsT := own_blk (unhide HR4)
      have W5 := (unhide HL4).blk.chg C5 (fun h => by
        obtain ⟨c, hc⟩ := hcsT wb h
        exact (by decide : 87 ≠ 56) (Blk.same hc (unhide HL4).blk).2)
      have c27 : w5.cell? ⟨wb, 27, none⟩ = some (.slice ca cus.length cc) := (W5.cell 27).trans (by show some X.cs = _; rw [hcs])
      have f27 := W5.free 27
      have W6 : Blk (w5.setCell ⟨wb, 27, none⟩ (.slice (some ⟨gb, 0, none⟩) (cus.length + 4) cb)) wb (lwL { X with n := X.n + i, bs := bs, ks := ks, cs := .slice (some ⟨gb, 0, none⟩) (cus.length + 4) cb }).toArray 56 := W5.set 27 (.slice (some ⟨gb, 0, none⟩) (cus.length + 4) cb)
      have C6 : Chg (fun x => x = wb ∨ (Value.slice ca cus.length cc).ownBlock = some x) w4 (w5.setCell ⟨wb, 27, none⟩ (.slice (some ⟨gb, 0, none⟩) (cus.length + 4) cb)) := (C5.mono (fun k _ h => Or.inr h)).setCell _ _ (Or.inl (Or.inl rfl))
      have hgbw : gb ≠ wb := by
        obtain ⟨c, hc⟩ := own_blk hg5.own gb rfl
        exact ne_of_type hc W5 (by decide)
      have R6 := hide (own_chg hg5.own (Chg.setCell (X := fun b => b = wb) (Chg.refl _ w5) ⟨wb, 27, none⟩ (.slice (some ⟨gb, 0, none⟩) (cus.length + 4) cb) (Or.inl rfl)) (fun g hg e => hgbw (by rw [← ob_eq hg]; exact e)))
      have HGN : Hid ((Value.slice ca cus.length cc).ownBlock = some gb ∨ w4.heap.size ≤ gb) := by
        rcases hg5.at' with h | h
        · exact Or.inl h
        · rw [World.size_alloc] at h
          exact Or.inr (by omega)
      have K6 : (w5.setCell ⟨wb, 27, none⟩ (.slice (some ⟨gb, 0, none⟩) (cus.length + 4) cb)).ownsRow 0 3 1 X.kc cus.length (ckk.map (Value.int .i64)) := own_chg (unhide HL4).cb.key C6 (fun g hg hX => by
        obtain ⟨c, hc⟩ := own_blk (unhide HL4).cb.key g hg
        rcases hX with rfl | hX
        · exact (by decide : 3 ≠ 56) (Blk.same hc (unhide HL4).blk).2
        · obtain ⟨c', hc'⟩ := hcsT g hX
          exact (by decide : 3 ≠ 87) (Blk.same hc hc').2)
      have c29 : (w5.setCell ⟨wb, 27, none⟩ (.slice (some ⟨gb, 0, none⟩) (cus.length + 4) cb)).cell? ⟨wb, 29, none⟩ = some X.kc := W6.cell 29
      have HCT := hide hcsT
      have CC6 := hide C6
      have HGW := hide hgbw
      have HW6 := hide W6
      have HK6 := hide K6
      clear hg5 C5 hcsT W5 C6 hgbw W6 K6 O4 N4
      have hsz6 : (w5.setCell ⟨wb, 27, none⟩ (.slice (some ⟨gb, 0, none⟩) (cus.length + 4) cb)).heap.size = w5.heap.size := by simp
      have hal := (Below.refl (w5.setCell ⟨wb, 27, none⟩ (.slice (some ⟨gb, 0, none⟩) (cus.length + 4) cb)).heap.size (w5.setCell ⟨wb, 27, none⟩ (.slice (some ⟨gb, 0, none⟩) (cus.length + 4) cb))).alloc (Nat.le_refl _) (.cells #[.int .i64 ((cus.length : Int) + 1), .int .i64 ((cus.length : Int) + 1), .int .i64 ((cus.length : Int) + 1), .int .i64 ((cus.length : Int) + 1)] 3)
      have O6 := hide (own_chg (unhide HK6) (Chg.of_new (X := fun _ => False) hal) (fun _ _ => id))
      have n6 := news_blk (Blk.new (w5.setCell ⟨wb, 27, none⟩ (.slice (some ⟨gb, 0, none⟩) (cus.length + 4) cb)) #[.int .i64 ((cus.length : Int) + 1), .int .i64 ((cus.length : Int) + 1), .int .i64 ((cus.length : Int) + 1), .int .i64 ((cus.length : Int) + 1)] 3)
      rw [hsz6] at n6
      have N6 := hide n6
      clear hal n6
      go_wp2_with (at_builtin; refine wpList_append_grew rfl (.tmp 67) (.tmp 72) 50 rfl 3 (.int .i64 0) 1 8 Tryz.underlying50 Tryz.infoI rfl (by decide) X.kc cus.length (ckk.map (Value.int .i64)) rfl (unhide O6) ⟨w5.heap.size, 0, none⟩ 4 4 [.int .i64 ((cus.length : Int) + 1), .int .i64 ((cus.length : Int) + 1), .int .i64 ((cus.length : Int) + 1), .int .i64 ((cus.length : Int) + 1)] rfl rfl (unhide N6) (by intro u hu; simp only [List.mem_cons, List.not_mem_nil, or_false, or_self] at hu; subst hu; rfl) (by decide) (by omega) (by decide) ?_)
      clear c27 f27 c29
      intro gk ck w8 hg8
      generalize hw6 : w5.setCell ⟨wb, 27, none⟩ (.slice (some ⟨gb, 0, none⟩) (cus.length + 4) cb) = w6 at *
      have hkvT := own_blk (unhide HK6)
      have C8 : Chg (fun x => X.kc.ownBlock = some x) w6 w8 := ((Chg.refl _ _).alloc _).trans hg8.chg (fun k h => Or.inl h)
      have W8 := (unhide HW6).chg C8 (fun h => by
        obtain ⟨c, hc⟩ := hkvT wb h
        exact (by decide : 3 ≠ 56) (Blk.same hc (unhide HW6)).2)
      have HG8 := hide hg8
      have HW8 := hide W8
      have HC8 := hide C8
      have c29 : w8.cell? ⟨wb, 29, none⟩ = some X.kc := W8.cell 29
      have f29 := W8.free 29
      clear hg8 W8 C8 hkvT O6 N6
      go_wp2
      have hg8 := unhide HG8
      have hL4 := unhide HL4
      have hto := unhide HTO
      have hsw := hto.chg.size
      have hs4 := (unhide HC3).size
      have hs6 := (unhide CC6).size
      have hSet : Chg (fun b => b = wb) w8 (w8.setCell ⟨wb, 29, none⟩ (.slice (some ⟨gk, 0, none⟩) (cus.length + 4) ck)) := Chg.setCell (X := fun b => b = wb) (Chg.refl _ w8) ⟨wb, 29, none⟩ _ (Or.inl rfl)
      have C9 : Chg (fun x => x = wb ∨ (Value.slice ca cus.length cc).ownBlock = some x ∨ X.kc.ownBlock = some x) w4 (w8.setCell ⟨wb, 29, none⟩ (.slice (some ⟨gk, 0, none⟩) (cus.length + 4) ck)) := (((unhide CC6).mono (fun k _ h => h.elim Or.inl (fun h => Or.inr (Or.inl h)))).trans (unhide HC8) (fun k h => Or.inl (Or.inr (Or.inr h)))).trans hSet (fun k h => Or.inl (Or.inl h))
      have K9 : ∀ g c t', Blk w4 g c t' → t' ≠ 3 → X.kc.ownBlock ≠ some g := fun g c t' hb ht e => by
        obtain ⟨c', hc'⟩ := own_blk hL4.cb.key g e
        exact ht (Blk.same hb hc').2
      have T9 : ∀ g c t', Blk w4 g c t' → t' ≠ 56 → t' ≠ 87 → X.kc.ownBlock ≠ some g → ¬ (g = wb ∨ (Value.slice ca cus.length cc).ownBlock = some g ∨ X.kc.ownBlock = some g) := fun g c t' hb h1 h2 h3 hX => by
        rcases hX with rfl | hX | hX
        · exact h1 (Blk.same hb hL4.blk).2
        · obtain ⟨c', hc'⟩ := unhide HCT g hX
          exact h2 (Blk.same hb hc').2
        · exact h3 hX
      have PP : ∀ (u : Value) (l : Nat), PatA w4 91 (cmdP ((cus.length : Int) + 1)) u l → ∃ l', PatA (w8.setCell ⟨wb, 29, none⟩ (.slice (some ⟨gk, 0, none⟩) (cus.length + 4) ck)) 91 (cmdP ((cus.length : Int) + 1)) u l' := fun u l hu => ⟨l, hu.chg C9 (fun g hg => by
          obtain ⟨c, hc⟩ := pat_blk hu g hg
          exact T9 g c _ hc (by decide) (by decide) (K9 g c _ hc (by decide)))⟩
      have hgkw : gk ≠ wb := by
        obtain ⟨c, hc⟩ := own_blk hg8.own gk rfl
        exact ne_of_type hc (unhide HW8) (by decide)
      have hgkN : X.kc.ownBlock = some gk ∨ w4.heap.size ≤ gk := by
        rcases hg8.at' with h | h
        · exact Or.inl h
        · rw [World.size_alloc] at h
          exact Or.inr (by omega)
      have hmx : ∀ x, LMem wb { X with n := X.n + i, bs := bs, ks := ks } us' cus x → LMem wb X us cus x ∨ (Value.slice la i cap).ownBlock = some x ∨ x ∈ dats L ∨ w.heap.size ≤ x := fun x hx => by
        rcases hto.mem x hx with q | ⟨j, c', _, hc', q⟩ | q
        · exact Or.inl q
        · exact Or.inr (Or.inr (Or.inl (dats_mem.2 ⟨c', List.mem_of_getElem? hc', q⟩)))
        · exact Or.inr (Or.inr (Or.inr q))
      refine bodyPost_end (results_none rfl _ _ _) rfl ⟨rfl, bs, ks, .slice (some ⟨gb, 0, none⟩) (cus.length + 4) cb, .slice (some ⟨gk, 0, none⟩) (cus.length + 4) ck, us', kk', .slice la i cap, .slice (some ⟨g1, 0, none⟩) (i + 1) c1, .slice (some ⟨g2, 0, none⟩) (i + 1 + 1) c2, .slice (some ⟨g3, 0, none⟩) (i + 1 + 1 + 1) c3, ⟨(unhide HW8).set 29 _, hL4.bk.chg C9 (fun g hg => ?_) (fun g hg => ?_) (fun u hu g hg => ?_), Bk.add hL4.cb.len (fun j u q hu hq => ?_) ?_ ?_ (PP _ _ (unhide P0)) (PP _ _ (unhide P1)) (PP _ _ (unhide P2)) (PP _ _ (unhide P3)), fun g hg e => ?_⟩, hto.num, ?_, fun x hx => ?_⟩
      · obtain ⟨c, hc⟩ := own_blk hL4.bk.row g hg
        exact T9 g c _ hc (by decide) (by decide) (K9 g c _ hc (by decide))
      · obtain ⟨c, hc⟩ := own_blk hL4.bk.key g hg
        exact T9 g c _ hc (by decide) (by decide) (hL4.ne g hg)
      · obtain ⟨c, hc⟩ := hL4.bk.typ u hu g hg
        exact T9 g c _ hc (by decide) (by decide) (K9 g c _ hc (by decide))
      · obtain ⟨l, hp⟩ := hL4.cb.ent j u q hu hq
        exact ⟨l, hp.chg C9 (fun g hg => by
          obtain ⟨c, hc⟩ := pat_blk hp g hg
          exact T9 g c _ hc (by decide) (by decide) (K9 g c _ hc (by decide)))⟩
      · refine own_chg (own_chg (unhide R6) (unhide HC8) (fun g hg hX => ?_)) hSet (fun g hg e => unhide HGW (by rw [← ob_eq hg]; exact e))
        obtain ⟨c, hc⟩ := own_blk (unhide R6) g hg
        obtain ⟨c', hc'⟩ := own_blk (unhide HK6) g hX
        exact (by decide : 87 ≠ 3) (Blk.same hc hc').2
      · exact own_chg hg8.own hSet (fun g hg e => hgkw (by rw [← ob_eq hg]; exact e))
      · rcases hgkN with q | q
        · exact hL4.ne g hg (by rw [ob_eq e]; exact q)
        · obtain ⟨c, hc⟩ := own_blk hL4.bk.key g hg
          have := hc.lt
          have := ob_eq e
          omega
      · refine (hto.chg.trans (unhide HC3) (fun k hk => Or.inl (Or.inr (Or.inl hk)))).trans C9 (fun x h => ?_)
        have : LMem wb { X with n := X.n + i, bs := bs, ks := ks } us' cus x := by
          rcases h with h | h | h
          · exact Or.inl h
          · exact Or.inr (Or.inr (Or.inr (Or.inl (by show X.cs.ownBlock = _; rw [hcs]; exact h))))
          · exact Or.inr (Or.inr (Or.inr (Or.inr (Or.inl h))))
        rcases hmx x this with q | q | q | q
        · exact Or.inl (Or.inl q)
        · exact Or.inl (Or.inr (Or.inl q))
        · exact Or.inl (Or.inr (Or.inr q))
        · exact Or.inr q
      · rcases hx with hx | hx | hx | hx | hx | hx | ⟨u, hu, hx⟩
        · exact hmx x (Or.inl hx)
        · exact hmx x (Or.inr (Or.inl hx))
        · exact hmx x (Or.inr (Or.inr (Or.inl hx)))
        · rcases unhide HGN with q | q
          · exact hmx x (Or.inr (Or.inr (Or.inr (Or.inl (by show X.cs.ownBlock = _; rw [hcs, ob_eq hx]; exact q)))))
          · exact Or.inr (Or.inr (Or.inr (by rw [ob_eq hx]; omega)))
        · rcases hgkN with q | q
          · exact hmx x (Or.inr (Or.inr (Or.inr (Or.inr (Or.inl (by rw [ob_eq hx]; exact q))))))
          · exact Or.inr (Or.inr (Or.inr (by rw [ob_eq hx]; omega)))
        · exact hmx x (Or.inr (Or.inr (Or.inr (Or.inr (Or.inr (Or.inl hx))))))
        · have fin : (Value.slice la i cap).ownBlock = some x ∨ wr.heap.size ≤ x → LMem wb X us cus x ∨ (Value.slice la i cap).ownBlock = some x ∨ x ∈ dats L ∨ w.heap.size ≤ x := fun h => h.elim (fun h => Or.inr (Or.inl h)) (fun h => Or.inr (Or.inr (Or.inr (by omega))))
          rcases List.mem_append.1 hu with q | q
          · exact hmx x (Or.inr (Or.inr (Or.inr (Or.inr (Or.inr (Or.inr ⟨u, q, hx⟩))))))
          · simp only [List.mem_cons, List.not_mem_nil, or_false] at q
            rcases q with rfl | rfl | rfl | rfl
            · exact Or.inr (Or.inl hx)
            · exact fin (unhide NN1 x hx)
            · exact fin (unhide NN2 x hx)
            · exact fin (unhide NN3 x hx)

end Go.Proofs.YtdcinlkkjbclmaaGreat
