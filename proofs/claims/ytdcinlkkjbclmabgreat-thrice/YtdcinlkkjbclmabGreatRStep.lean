/- A command that brings nothing back is done: the rig and the volume behind it. -/
import Derived.Test.YtdcinlkkjbclmabGreatRRest
namespace Go.Proofs.YtdcinlkkjbclmabGreat
open Go.RowKit

theorem Mid.vol {O : List Nat} {B : Nat} {w w1 : World} {vb : Nat} {A : VA} (hm : Mid (Pl O B) w w1) (hv : Vol w vb A O) : Vol w1 vb A O := hv.chg hm (fun _ hb hx => hx.1 (mem_pl.2 (Or.inl hb)))
/-- nothing below B has changed -/
theorem Below.on {X : Nat → Prop} {W0 w w' : World} {B : Nat} (h : Below B W0 w) (hB : B ≤ w.heap.size) (hc : Chg X w w') (hx : ∀ b, X b → B ≤ b) : Below B W0 w' := h.trans (hc.below B hB (fun k hk hX => by have := hx k hX; omega))
theorem Mid.opn {O : List Nat} {w w1 : World} {tb hb vb : Nat} {nx : Value} {fr : Bool} (hm : Mid O w w1) (ht : OpenT w tb hb vb nx fr) : OpenT w1 tb hb vb nx fr := by
  refine ht.chg hm (fun hx => ?_) (fun hx => ?_)
  · obtain ⟨_, cs, t, hb', ht'⟩ := hx
    obtain ⟨⟨cs2, q, _⟩, _⟩ := ht
    have := (Blk.same hb' q).2
    subst this
    revert ht'; decide
  · obtain ⟨_, cs, t, hb', ht'⟩ := hx
    obtain ⟨_, ⟨es, clock, q, _⟩⟩ := ht
    rw [Blk, q] at hb'
    cases hb'
theorem Mid.dat {O : List Nat} {w w1 : World} {x : Cmd} (hm : Mid O w w1) (h : DataIn w x) : DataIn w1 x := h.keep hm (fun b _ cs hb hx => by
  obtain ⟨_, cs', t, hb', ht'⟩ := hx
  have := (Blk.same hb' hb).2
  subst this
  revert ht'; decide)
theorem Mid.cmd {O : List Nat} {w w1 : World} {lb : Nat} {cs : Array Value} (hm : Mid O w w1) (h : Blk w lb cs 64) : Blk w1 lb cs 64 := h.chg hm (fun hx => by
  obtain ⟨_, cs', t, hb', ht'⟩ := hx
  have := (Blk.same hb' h).2
  subst this
  revert ht'; decide)
theorem kept_of {O : List Nat} {B : Nat} {w w' : World} {tb hb vb : Nat} {nx : Value} {fr : Bool} (hc : Chg (fun b => b ∈ O ∨ b = tb ∨ b = hb) w w') (ht : OpenT w tb hb vb nx fr) : Kept (Pl O B) w w' := Kept.chg hc (fun b cs t ho hb' ht' hx => by
  rcases hx with q | q | q
  · exact ho (mem_pl.2 (Or.inl q))
  · subst q
    obtain ⟨⟨cs2, r, _⟩, _⟩ := ht
    have := (Blk.same hb' r).2
    subst this
    revert ht'; decide
  · subst q
    obtain ⟨_, ⟨es, clock, r, _⟩⟩ := ht
    rw [Blk, r] at hb'
    cases hb')
theorem Rig.beside {w w' : World} {gb D S pb vb tb hb B : Nat} {O O' : List Nat} {L : Nat → Bool} {N : Nat} {nx : Value} {fr : Bool} (h : Rig w gb D S pb vb (Pl O B) L N) (hc : Chg (fun b => b ∈ O ∨ b = tb ∨ b = hb) w w') (ht : OpenT w tb hb vb nx fr) (ho : ∀ b ∈ O', b ∈ O ∨ w.heap.size ≤ b) : Rig w' gb D S pb vb (Pl O' B) L N :=
  h.chg hc (fun b cs t hb' ht' hbo hx => by
    rcases hx with q | q | q
    · exact hbo (mem_pl.2 (Or.inl q))
    · subst q
      obtain ⟨⟨cs2, r, _⟩, _⟩ := ht
      have := (Blk.same hb' r).2
      subst this
      revert ht'; unfold rigT diskT; decide
    · subst q
      obtain ⟨_, ⟨es, clock, r, _⟩⟩ := ht
      rw [Blk, r] at hb'
      cases hb') (fun b hb' hbo ho' => by
    rcases mem_pl.1 ho' with q | q
    · rcases ho b q with q | q
      · exact hbo (mem_pl.2 (Or.inl q))
      · omega
    · exact hbo (mem_pl.2 (Or.inr q)))
theorem dat_beside {O O' : List Nat} {w w' : World} {tb hb vb : Nat} {nx : Value} {fr : Bool} {x : Cmd} (h : DataIn w x) (hx : ∀ b ∈ dBlk x.data, b ∉ O) (hc : Chg (fun b => b ∈ O ∨ b = tb ∨ b = hb) w w') (ht : OpenT w tb hb vb nx fr) (ho : ∀ b ∈ O', b ∈ O ∨ w.heap.size ≤ b) : DataIn w' x ∧ ∀ b ∈ dBlk x.data, b ∉ O' := by
  refine ⟨h.keep hc (fun b hb' cs hbk q => ?_), fun b hb' ho' => ?_⟩
  · rcases q with q | q | q
    · exact hx b hb' q
    · subst q
      obtain ⟨⟨cs2, r, _⟩, _⟩ := ht
      have := (Blk.same hbk r).2
      revert this; decide
    · subst q
      obtain ⟨_, ⟨es, clock, r, _⟩⟩ := ht
      rw [Blk, r] at hbk
      cases hbk
  · have := h.lt b hb'
    rcases ho b ho' with q | q
    · exact hx b hb' q
    · omega
theorem eight_at {w : World} {c : Cmd} (h : DataIn w c) (h8 : Eight c.data) : ∃ (g cc : Nat) (cs : Array Value), c.data = .slice (some ⟨g, 0, none⟩) 8 cc ∧ Blk w g cs 5 ∧ Bytes cs 8 := by
  obtain ⟨g, cc, e⟩ := h8
  obtain ⟨xs, ⟨h1, h2⟩, h3, h4⟩ := h
  rcases h2 with ⟨q, _⟩ | ⟨g', cap, cur, q, _, hh, _, _, hcs, htk⟩
  · rw [e] at q; cases q
  · rw [e] at q
    simp only [Value.slice.injEq, Option.some.injEq, Addr.mk.injEq, and_true] at q
    obtain ⟨q1, q2, q3⟩ := q
    subst q1
    refine ⟨g, cc, cur, e, hh, fun j hj => ?_⟩
    have hjl : j < xs.length := by omega
    refine ⟨xs[j], h4 _ (List.getElem_mem hjl), ?_⟩
    have e1 : (cur.toList.take (xs.length * 1))[j]? = some (Value.int .u8 (xs[j] : Int)) := by rw [htk]; simp [hjl]
    rw [List.getElem?_take, if_pos (by omega), Array.getElem?_toList] at e1
    exact e1

set_option maxHeartbeats 1000000 in
theorem carry_ok (gb D S pb vb tb hb lb N B : Nat) (W0 : World) (O : List Nat) (Lg : Nat → Bool) (A : VA) (c : Cmd) (L : List Cmd) (nx : Value) (fr : Bool) (P : VA → World → Prop) (w : World) (hB : B ≤ w.heap.size) (hbO : ∀ b ∈ O, B ≤ b) (hbt : B ≤ tb) (hbh : B ≤ hb) (hbl : B ≤ lb) (hbel : Below B W0 w) (hr : Rig w gb D S pb vb (Pl O B) Lg N) (hN : N ≤ 100000) (hv : Vol w vb A O) (ht : OpenT w tb hb vb nx fr) (hto : tb ∉ O) (hho : hb ∉ O) (hlo : lb ∉ O) (hll : lb < w.heap.size)
    (htd : A.told = (c :: L).map noData) (hkd : c.kind = 2 ∨ c.kind = 3) (d : Nat) (hdk : c.disk = (d : Int)) (hd : d < D) (hse : c.sector = 0) (hLg : Lg d = false) (hdat : ∀ x ∈ c :: L, DataIn w x ∧ ∀ b ∈ dBlk x.data, b ∉ O) (h8 : c.kind = 2 → Eight c.data)
    (hrun : ∀ w2 O2, Vol w2 vb { A with told := L.map noData } O2 → OpenT w2 tb hb vb nx fr → tb ∉ O2 → hb ∉ O2 → Calls Tryz.prog 37 #[.pointer (some ⟨vb, 0, none⟩)] w2 fun e w' => e = .returned (.tuple #[]) ∧ ∃ A' O', Vol w' vb A' O' ∧ Chg (fun b => b ∈ O2 ∨ b = tb) w2 w' ∧ (∀ b ∈ O', b ∈ O2 ∨ w2.heap.size ≤ b) ∧ P A' w') :
    Calls Tryz.prog 25 #[.pointer (some ⟨gb, 0, none⟩), .agg c.cells.toArray] w fun e w' => e = .returned (.bool true) ∧ (∃ A' O', Rig w' gb D S pb vb (Pl O' B) Lg (N + 1) ∧ Vol w' vb A' O' ∧ (∀ b ∈ O', B ≤ b) ∧ Below B W0 w' ∧ P A' w' ∧ tb ∉ O' ∧ hb ∉ O' ∧ lb ∉ O' ∧ lb < w'.heap.size ∧ ∀ x ∈ L, DataIn w' x ∧ ∀ b ∈ dBlk x.data, b ∉ O') ∧ ∀ cs, Blk w lb cs 64 → Blk w' lb cs 64 := by
  obtain ⟨sa, sn, sc, hsl⟩ := data_sl (hdat c (by simp)).1
  obtain ⟨cid, ckd, cdk, cse, cda⟩ := c
  simp only at hsl hdk hse hkd h8
  subst hsl hdk hse
  have htl : tb < w.heap.size := block_lt_of_cell ht.c0
  have hhl := ht.map.lt
  refine (carry_any gb D S pb vb (Pl O B) Lg N cid ckd d 0 sa sn sc (fun w' => (∃ A' O', Rig w' gb D S pb vb (Pl O' B) Lg (N + 1) ∧ Vol w' vb A' O' ∧ (∀ b ∈ O', B ≤ b) ∧ Below B W0 w' ∧ P A' w' ∧ tb ∉ O' ∧ hb ∉ O' ∧ lb ∉ O' ∧ lb < w'.heap.size ∧ ∀ x ∈ L, DataIn w' x ∧ ∀ b ∈ dBlk x.data, b ∉ O') ∧ ∀ cs, Blk w lb cs 64 → Blk w' lb cs 64) w hr hN (fun b hb' => by rcases mem_pl.1 hb' with q | q; exact hv.lt b q; omega) hd (by omega) (fun _ hk => ?_) (fun w1 dv hm hr1 hbk => ?_)).mono (fun e w' h => h)
  · obtain ⟨g, cc, cs, e, hb', hby⟩ := eight_at (c := ⟨cid, ckd, (d : Int), 0, .slice sa sn sc⟩) (hdat _ (List.mem_cons_self ..)).1 (h8 hk)
    simp only [Value.slice.injEq] at e
    exact ⟨g, cc, cs, ⟨e.1, e.2.1, e.2.2⟩, hb', hby⟩
  · have hdv : dv = .slice none 0 0 := by
      rcases hbk with ⟨_, hk, _⟩ | ⟨_, e⟩
      · rcases hkd with q | q <;> omega
      · exact e
    subst hdv
    have hv1 := hm.vol hv
    have ht1 := hm.opn ht
    have hs1 := hm.size
    have hbel1 := Below.on hbel hB hm (fun b hx => by rcases Nat.lt_or_ge b B with q | q; exact absurd (mem_pl.2 (Or.inr q)) hx.1; exact q)
    rw [hLg]
    refine wrapDone pb vb cid true (.slice none 0 0) 0 _ w1 (hr1.vol.cell 0) (done_ok vb A O cid ckd (d : Int) 0 0 (.slice none 0 0) _ w1 hv1 ?_ ?_ (by rcases hkd with q | q <;> omega) ⟨none, 0, 0, rfl⟩ (fun w2 O2 v2 c2 o2 => ?_))
    · rw [htd]; simp [noData, List.findIdx?_cons]
    · rw [htd]; rfl
    · have e : A.told.eraseIdx 0 = L.map noData := by rw [htd]; rfl
      rw [e] at v2
      have hto2 : tb ∉ O2 := fun ho => by rcases o2 _ ho with q | q; exact hto q; omega
      have hho2 : hb ∉ O2 := fun ho => by rcases o2 _ ho with q | q; exact hho q; omega
      have ht2 := ht1.chg c2 hto hho
      have hs2 := c2.size
      refine (hrun w2 O2 v2 ht2 hto2 hho2).mono ?_
      rintro e' w3 ⟨rfl, A3, O3, v3, c3, o3, hP⟩
      have hs3 := c3.size
      have hc13 : Chg (fun b => b ∈ O ∨ b = tb ∨ b = hb) w1 w3 := (c2.mono (fun k _ hk => Or.inl hk)).trans c3 (fun k hk => by
        rcases hk with hk | hk
        · rcases o2 k hk with q | q
          · exact Or.inl (Or.inl q)
          · exact Or.inr q
        · exact Or.inl (Or.inr (Or.inl hk)))
      have ho3 : ∀ b ∈ O3, b ∈ O ∨ w1.heap.size ≤ b := fun b hb' => by
        rcases o3 b hb' with q | q
        · exact o2 b q
        · exact Or.inr (by omega)
      refine ⟨rfl, ⟨⟨A3, O3, hr1.beside hc13 ht1 ho3, v3, fun b hb' => ?_, Below.on hbel1 (by omega) hc13 (fun b hx => ?_), hP, ?_, ?_, ?_, by omega, fun x hx => ?_⟩, fun cs hcs => ?_⟩, kept_of hc13 ht1⟩
      · rcases ho3 b hb' with q | q; exact hbO b q; omega
      · rcases hx with q | q | q; exact hbO b q; omega; omega
      · intro ho; rcases ho3 _ ho with q | q; exact hto q; omega
      · intro ho; rcases ho3 _ ho with q | q; exact hho q; omega
      · intro ho; rcases ho3 _ ho with q | q; exact hlo q; omega
      · have hx' := hdat x (List.mem_cons_of_mem _ hx)
        exact dat_beside (hm.dat hx'.1) hx'.2 hc13 ht1 ho3
      · exact kept_of (B := B) hc13 ht1 lb cs _ (fun h => by rcases mem_pl.1 h with q | q; exact hlo q; omega) (hm.cmd hcs) (Or.inr rfl)

end Go.Proofs.YtdcinlkkjbclmabGreat
