/- Lists that hold one value over and over, and how they grow. -/
import Derived.Test.YtdcinlkkjbclmaaGreatMABeganASubADo
import Derived.Deep.AppendLies
namespace Go.Proofs.YtdcinlkkjbclmaaGreat
open Go.RowKit

def repP (p : List Value) (n : Nat) : List Value := (List.replicate n p).flatten
theorem rep_len (p : List Value) (n : Nat) : (repP p n).length = n * p.length := by
  unfold repP
  rw [List.length_flatten, List.map_replicate, List.sum_replicate_nat]
theorem rep_succ (p : List Value) (n : Nat) : repP p (n + 1) = repP p n ++ p := by
  unfold repP
  rw [List.replicate_succ', List.flatten_append]
  simp
theorem rep_at (p : List Value) (n j : Nat) (hj : j < n * p.length) : (repP p n)[j]? = p[j % p.length]? := by
  induction n with
  | zero => omega
  | succ n ih =>
    rw [rep_succ]
    rcases Nat.lt_or_ge j (n * p.length) with h | h
    · rw [List.getElem?_append_left (by rw [rep_len]; exact h)]
      exact ih h
    · rw [List.getElem?_append_right (by rw [rep_len]; exact h), rep_len]
      have h2 : j - n * p.length < p.length := by rw [Nat.succ_mul] at hj; omega
      have h3 : j % p.length = j - n * p.length := by
        have h4 : j = (j - n * p.length) + n * p.length := by omega
        rw [h4, Nat.add_mul_mod_self_right, Nat.mod_eq_of_lt h2]
        omega
      rw [h3]

/-- what owns a row, as a block -/
theorem own_get {w : World} {t : TypeId} {k : Nat} {v : Value} {n : Nat} {xs : List Value} (h : w.ownsRow 0 t k v n xs) : (v = .slice none 0 0 ∧ n = 0 ∧ xs = []) ∨ ∃ (g cap : Nat) (cs : Array Value), v = .slice (some ⟨g, 0, none⟩) n cap ∧ Blk w g cs t ∧ n ≤ cap ∧ cap ≤ maxLen ∧ cs.size = cap * k ∧ xs.length = n * k ∧ ∀ j, j < n * k → cs[j]? = xs[j]? := by
  have h' := h
  rcases h.2 with ⟨rfl, rfl⟩ | ⟨g, cap, cur, rfl, hb, hg, hn, hm, hz, ht⟩
  · exact Or.inl ⟨rfl, rfl, List.length_eq_zero_iff.1 (by simpa using h.1)⟩
  · refine Or.inr ⟨g, cap, cur, rfl, hg, hn, hm, hz, h.1, fun j hj => ?_⟩
    have := h'.cellAt j hj
    rw [← this]
    exact (Blk.cell (t := t) (w := w) (b := g) (cs := cur) hg j).symm
theorem own_mk {w : World} {t : TypeId} {k g n cap : Nat} {cs : Array Value} {xs : List Value} (hb : Blk w g cs t) (hn : n ≤ cap) (hm : cap ≤ maxLen) (hz : cs.size = cap * k) (hx : xs.length = n * k) (ht : ∀ j, j < n * k → cs[j]? = xs[j]?) : w.ownsRow 0 t k (.slice (some ⟨g, 0, none⟩) n cap) n xs := by
  refine ⟨hx, Or.inr ⟨g, cap, cs, rfl, Nat.zero_le _, hb, hn, hm, hz, ?_⟩⟩
  apply List.ext_getElem?
  intro j
  rcases Nat.lt_or_ge j (n * k) with h | h
  · rw [List.getElem?_take_of_lt h, Array.getElem?_toList]
    exact ht j h
  · rw [List.getElem?_eq_none (by rw [List.length_take]; omega), List.getElem?_eq_none (by omega)]

def PatA (w : World) (t : TypeId) (p : List Value) (u : Value) (len : Nat) : Prop :=
  (u = .slice none 0 0 ∧ len = 0) ∨ ∃ (g c : Nat) (cs : Array Value), u = .slice (some ⟨g, 0, none⟩) len c ∧ Blk w g cs t ∧ (∀ j, j < len * p.length → cs[j]? = p[j % p.length]?) ∧ len ≤ maxLen
theorem PatA.chg {X : Nat → Prop} {w w' : World} {t : TypeId} {p : List Value} {u : Value} {len : Nat} (h : PatA w t p u len) (hc : Chg X w w') (hx : ∀ g, u.ownBlock = some g → ¬ X g) : PatA w' t p u len := by
  rcases h with h | ⟨g, c, cs, rfl, hb, h⟩
  · exact Or.inl h
  · exact Or.inr ⟨g, c, cs, rfl, hb.chg hc (hx g rfl), h⟩
theorem pat_own {w : World} {t : TypeId} {p : List Value} {v : Value} {n : Nat} (h : w.ownsRow 0 t p.length v n (repP p n)) : PatA w t p v n := by
  rcases own_get h with ⟨rfl, rfl, _⟩ | ⟨g, cap, cs, rfl, hb, hl1, hl2, _, _, ht⟩
  · exact Or.inl ⟨rfl, rfl⟩
  · exact Or.inr ⟨g, cap, cs, rfl, hb, fun j hj => (ht j hj).trans (rep_at p n j hj), by omega⟩
theorem own_chg {X : Nat → Prop} {w w' : World} {t : TypeId} {k : Nat} {v : Value} {n : Nat} {xs : List Value} (h : w.ownsRow 0 t k v n xs) (hc : Chg X w w') (hx : ∀ g, v.ownBlock = some g → ¬ X g) : w'.ownsRow 0 t k v n xs := by
  rcases own_get h with ⟨rfl, rfl, rfl⟩ | ⟨g, cap, cs, rfl, hb, h1, h2, h3, h4, h5⟩
  · exact World.ownsRow_nil _ _ _ _
  · exact own_mk (hb.chg hc (hx g rfl)) h1 h2 h3 h4 h5
theorem own_blk {w : World} {t : TypeId} {k : Nat} {v : Value} {n : Nat} {xs : List Value} (h : w.ownsRow 0 t k v n xs) (g : Nat) (hg : v.ownBlock = some g) : ∃ cs, Blk w g cs t := by
  rcases own_get h with ⟨rfl, _, _⟩ | ⟨g1, cap, cs, rfl, hb, _⟩
  · cases hg
  · obtain rfl : g1 = g := by simpa [Value.ownBlock] using hg
    exact ⟨cs, hb⟩
theorem pat_blk {w : World} {t : TypeId} {p : List Value} {u : Value} {len : Nat} (h : PatA w t p u len) (g : Nat) (hg : u.ownBlock = some g) : ∃ cs, Blk w g cs t := by
  rcases h with ⟨rfl, _⟩ | ⟨g1, c, cs, rfl, hb, _⟩
  · cases hg
  · obtain rfl : g1 = g := by simpa [Value.ownBlock] using hg
    exact ⟨cs, hb⟩

/-- a row grew by m elements -/
structure Grew (w w' : World) (e : TypeId) (k : Nat) (v : Value) (n m g cap : Nat) (xs : List Value) : Prop where
  own : w'.ownsRow 0 e k (.slice (some ⟨g, 0, none⟩) (n + m) cap) (n + m) xs
  chg : Chg (fun b => v.ownBlock = some b) w w'
  at' : v.ownBlock = some g ∨ w.heap.size ≤ g
  lt : g < w'.heap.size
  keep : ∀ p u len, p.length = k → PatA w e p u len → len ≤ n → PatA w' e p u len

theorem run_append_grew {P : Program} (w : World) (t ty : TypeId)
    (e : TypeId) (z : Value) (k bytes : Nat) (ht : P.underlying t = some (.slice e)) (hi0 : (P.info? e).map (fun i => (i.zero, i.size, i.bytes)) = some (some z, k, bytes)) (hzs : z.cells.size = k) (hsz : 0 < k)
    (v : Value) (n : Nat) (xs : List Value) (hown : w.ownsRow 0 e k v n xs)
    (ad : Addr) (m c : Nat) (news : List Value) (hl : news.length = m * k) (hnews : ∀ j u, news[j]? = some u → w.cell? (ad.add j) = some u) (h1 : ∀ u ∈ news, u.oneCell' = true)
    (hm : 0 < m) (hnm : n + m ≤ 100000) (hby : bytes ≤ 1000) :
    ∃ g cap w', (Builtin.append_ #[t, t] ty #[v, .slice (some ad) m c]).run P w = .ok (.slice (some ⟨g, 0, none⟩) (n + m) cap) w' ∧ Grew w w' e k v n m g cap (xs ++ news) := by
  obtain ⟨i, hi, hz, hsize, hbytes⟩ := info_parts hi0
  clear hi0
  subst hsize
  subst hbytes
  have hbig : (n + m) * i.bytes ≤ 140737488355328 := Nat.le_trans (Nat.mul_le_mul hnm hby) (by decide)
  obtain ⟨g, cap, w', hr, h2, h3, h4, h5⟩ := run_append_lies (P := P) w t ty 0 e i z i.size i.bytes ht hi hz rfl rfl hzs hsz v n xs hown ad m c news hl hnews h1 hm (by unfold maxLen; omega) hbig (Nat.zero_le _) w.heap.size rfl
  refine ⟨g, cap, w', hr, h2, ?_, ?_, h5, ?_⟩
  · exact ⟨h3.os, h3.tape, h3.output, h3.size, fun b hb hX => h3.block b hb (fun e => hX e.symm)⟩
  · rcases h4 with h4 | h4
    · exact Or.inl h4
    · exact Or.inr (by omega)
  · intro p u len hp hpu hle
    rcases hpu with hpu | ⟨g1, c1, cs, rfl, hb, hcs⟩
    · exact Or.inl hpu
    · by_cases hv : v.ownBlock = some g1
      · rcases own_get hown with ⟨rfl, _, _⟩ | ⟨g2, cap2, cs2, rfl, hb2, q1, q2, q3, q4, q5⟩
        · cases hv
        · obtain rfl : g2 = g1 := by simpa [Value.ownBlock] using hv
          obtain ⟨rfl, _⟩ := Blk.same hb hb2
          rcases own_get h2 with ⟨hh, _⟩ | ⟨g3, cap3, cs3, hh, hb3, r1, r2, r3, r4, r5⟩
          · cases hh
          · simp only [Value.slice.injEq, Option.some.injEq, Addr.mk.injEq] at hh
            obtain ⟨⟨rfl, _⟩, _, rfl⟩ := hh
            have hle2 : len * p.length ≤ n * i.size := by rw [hp]; exact Nat.mul_le_mul_right _ hle
            rcases h4 with h4 | h4
            · obtain rfl : g2 = g := by simpa [Value.ownBlock] using h4
              refine Or.inr ⟨g2, c1, cs3, rfl, hb3, fun j hj => ?_, hcs.2⟩
              rw [r5 j (by rw [Nat.add_mul]; omega), List.getElem?_append_left (by rw [q4]; omega), ← q5 j (by omega)]
              exact hcs.1 j hj
            · refine Or.inr ⟨g2, c1, cs, rfl, ?_, hcs⟩
              by_cases hroom : n + m ≤ cap2
              · have hfit : n * i.size + news.length ≤ cs.size := by rw [hl, q3, ← Nat.add_mul]; exact Nat.mul_le_mul_right _ hroom
                have hr2 := run_append_room (P := P) w t ty e i ht hi g2 n cap2 cs hb ad m c news hl hnews h1 hroom hfit
                rw [hr2] at hr
                simp only [Result.ok.injEq, Value.slice.injEq, Option.some.injEq, Addr.mk.injEq] at hr
                have := hb.lt
                omega
              · have holds : ∀ j u, xs[j]? = some u → w.cell? ((⟨g2, 0, none⟩ : Addr).add j) = some u := hown.cells (g := g2) rfl
                have hr2 := run_append_grow (P := P) w t ty e i z ht hi hz ⟨g2, 0, none⟩ n cap2 xs hown.1 holds ad m c news hl hnews (by omega) (by omega) (growslice_fits (by omega) hbig)
                rw [hr2] at hr
                simp only [Result.ok.injEq] at hr
                obtain ⟨_, rfl⟩ := hr
                exact hb.alloc _
      · exact Or.inr ⟨g1, c1, cs, rfl, (h3.block g1 hb.lt (fun e => hv e.symm)).trans hb, hcs⟩

theorem wp_append_grew {P : Program} {w : World} {o : Oper} {a : Act} {K : Act → World → Prop} {Q : Exit → Act → World → Prop} (s x : Operand) (t : TypeId)
    (ho : o.op = .call { callee := .builtin .append, args := #[s, x], argTypes := #[t, t] })
    (e : TypeId) (z : Value) (k bytes : Nat) (ht : P.underlying t = some (.slice e)) (hi : (P.info? e).map (fun i => (i.zero, i.size, i.bytes)) = some (some z, k, bytes)) (hzs : z.cells.size = k) (hsz : 0 < k)
    (v : Value) (n : Nat) (xs : List Value) (hs : a.eval s = v) (hown : w.ownsRow 0 e k v n xs)
    (ad : Addr) (m c : Nat) (news : List Value) (hx : a.eval x = .slice (some ad) m c) (hl : news.length = m * k) (hnews : ∀ j u, news[j]? = some u → w.cell? (ad.add j) = some u) (h1 : ∀ u ∈ news, u.oneCell' = true)
    (hm : 0 < m) (hnm : n + m ≤ 100000) (hby : bytes ≤ 1000)
    (h : ∀ g cap w', Grew w w' e k v n m g cap (xs ++ news) → K (a.put o.dst (.slice (some ⟨g, 0, none⟩) (n + m) cap)) w') : o.wp P a w K Q := by
  obtain ⟨g, cap, w', hr, hg⟩ := run_append_grew (P := P) w t o.type e z k bytes ht hi hzs hsz v n xs hown ad m c news hl hnews h1 hm hnm hby
  unfold Oper.wp execOp
  simp only [ho, resolve, invoke, builtin, Sem.run_bind, Sem.run_pure, Result.andThen_ok, List.map_toArray, List.map_cons, List.map_nil, hs, hx, hr]
  exact h g cap w' hg
theorem wpList_append_grew {P : Program} {w : World} {ops : Array Oper} {rest : List Oper} {o : Oper} {a : Act} {Q : Exit → Act → World → Prop} (hgd : o.guard = none) (s x : Operand) (t : TypeId)
    (ho : o.op = .call { callee := .builtin .append, args := #[s, x], argTypes := #[t, t] })
    (e : TypeId) (z : Value) (k bytes : Nat) (ht : P.underlying t = some (.slice e)) (hi : (P.info? e).map (fun i => (i.zero, i.size, i.bytes)) = some (some z, k, bytes)) (hzs : z.cells.size = k) (hsz : 0 < k)
    (v : Value) (n : Nat) (xs : List Value) (hs : a.eval s = v) (hown : w.ownsRow 0 e k v n xs)
    (ad : Addr) (m c : Nat) (news : List Value) (hx : a.eval x = .slice (some ad) m c) (hl : news.length = m * k) (hnews : ∀ j u, news[j]? = some u → w.cell? (ad.add j) = some u) (h1 : ∀ u ∈ news, u.oneCell' = true)
    (hm : 0 < m) (hnm : n + m ≤ 100000) (hby : bytes ≤ 1000)
    (h : ∀ g cap w', Grew w w' e k v n m g cap (xs ++ news) → wpList P ops Q rest (a.put o.dst (.slice (some ⟨g, 0, none⟩) (n + m) cap)) w') : wpList P ops Q (o :: rest) a w :=
  wpList_plain hgd fun _ hK => wp_append_grew s x t ho e z k bytes ht hi hzs hsz v n xs hs hown ad m c news hx hl hnews h1 hm hnm hby fun g cap w' hg => hK _ _ (h g cap w' hg)
/-- the cells of a block, as what is appended -/
theorem news_blk {w : World} {B : Nat} {cs : Array Value} {t : TypeId} (h : Blk w B cs t) : ∀ j u, cs.toList[j]? = some u → w.cell? ((⟨B, 0, none⟩ : Addr).add j) = some u := fun j u hj => by
  rw [Addr.add_mid, Nat.zero_add, h.cell, ← Array.getElem?_toList]
  exact hj

end Go.Proofs.YtdcinlkkjbclmaaGreat

/- A row grows by any number of elements, by none too. -/
namespace Go.Proofs.YtdcinlkkjbclmaaGreat
open Go.RowKit

theorem run_append_zero {P : Program} (w : World) (t ty e : TypeId) (i : TypeInfo) (ht : P.underlying t = some (.slice e)) (hi : P.info? e = some i) (base : Option Addr) (n cap : Nat) (hle : n ≤ cap) (ao : Option Addr) (c : Nat) :
    (Builtin.append_ #[t, t] ty #[.slice base n cap, .slice ao 0 c]).run P w = .ok (.slice base n cap) w := by
  have hl : (Builtin.lenOf (.slice ao 0 c)).run P w = .ok 0 w := by simp [Builtin.lenOf]
  have hf : (Builtin.firstCells i.size 0 (.slice ao 0 c)).run P w = .ok #[] w := by
    cases ao <;> simp [Builtin.firstCells, loadCells, loadCellsFrom]
  cases base <;> simp [Builtin.append_, run_underlying ht, sizeOf, typeInfo, hi, hle, storeCells, hl, hf]

/-- a row grew by m elements, or by none -/
structure App (w w' : World) (e : TypeId) (k : Nat) (v : Value) (n m : Nat) (v' : Value) (xs : List Value) : Prop where
  own : w'.ownsRow 0 e k v' (n + m) xs
  chg : Chg (fun b => v.ownBlock = some b) w w'
  new : ∀ g, v'.ownBlock = some g → v.ownBlock = some g ∨ w.heap.size ≤ g
  sl : ∃ a c, v' = .slice a (n + m) c

theorem run_append_all {P : Program} (w : World) (t ty : TypeId)
    (e : TypeId) (z : Value) (k bytes : Nat) (ht : P.underlying t = some (.slice e)) (hi0 : (P.info? e).map (fun i => (i.zero, i.size, i.bytes)) = some (some z, k, bytes)) (hzs : z.cells.size = k) (hsz : 0 < k)
    (v : Value) (n : Nat) (xs : List Value) (hown : w.ownsRow 0 e k v n xs)
    (ao : Option Addr) (m c : Nat) (news : List Value) (hl : news.length = m * k) (hnews : ∀ j u, news[j]? = some u → ∃ ad, ao = some ad ∧ w.cell? (ad.add j) = some u) (h1 : ∀ u ∈ news, u.oneCell' = true)
    (hnm : n + m ≤ 100000) (hby : bytes ≤ 1000) :
    ∃ v' w', (Builtin.append_ #[t, t] ty #[v, .slice ao m c]).run P w = .ok v' w' ∧ App w w' e k v n m v' (xs ++ news) := by
  rcases Nat.eq_zero_or_pos m with rfl | hm
  · obtain ⟨i, hi, hz, hsize, hbytes⟩ := info_parts hi0
    have hnl : news = [] := List.length_eq_zero_iff.1 (by omega)
    subst hnl
    rw [List.append_nil]
    rcases own_get hown with ⟨rfl, rfl, rfl⟩ | ⟨g, cap, cs, rfl, hb, h2, h3, h4, h5, h6⟩
    · exact ⟨_, _, run_append_zero w t ty e i ht hi none 0 0 (Nat.le_refl _) ao c, hown, Chg.refl _ _, fun g hg => Or.inl hg, ⟨_, _, rfl⟩⟩
    · exact ⟨_, _, run_append_zero w t ty e i ht hi _ n cap h2 ao c, hown, Chg.refl _ _, fun g hg => Or.inl hg, ⟨_, _, rfl⟩⟩
  · have hne : 0 < news.length := by rw [hl]; exact Nat.mul_pos hm hsz
    obtain ⟨ad, rfl, _⟩ := hnews 0 news[0] (List.getElem?_eq_getElem hne)
    obtain ⟨g, cap, w', hr, hg⟩ := run_append_grew (P := P) w t ty e z k bytes ht hi0 hzs hsz v n xs hown ad m c news hl (fun j u hj => by
      obtain ⟨ad', e', hc⟩ := hnews j u hj
      cases e'
      exact hc) h1 hm hnm hby
    refine ⟨_, w', hr, hg.own, hg.chg, fun g' hg' => ?_, ⟨_, _, rfl⟩⟩
    obtain rfl : g = g' := by simpa [Value.ownBlock] using hg'
    exact hg.at'

theorem wp_append_all {P : Program} {w : World} {o : Oper} {a : Act} {K : Act → World → Prop} {Q : Exit → Act → World → Prop} (s x : Operand) (t : TypeId)
    (ho : o.op = .call { callee := .builtin .append, args := #[s, x], argTypes := #[t, t] })
    (e : TypeId) (z : Value) (k bytes : Nat) (ht : P.underlying t = some (.slice e)) (hi : (P.info? e).map (fun i => (i.zero, i.size, i.bytes)) = some (some z, k, bytes)) (hzs : z.cells.size = k) (hsz : 0 < k)
    (v : Value) (n : Nat) (xs : List Value) (hs : a.eval s = v) (hown : w.ownsRow 0 e k v n xs)
    (ao : Option Addr) (m c : Nat) (news : List Value) (hx : a.eval x = .slice ao m c) (hl : news.length = m * k) (hnews : ∀ j u, news[j]? = some u → ∃ ad, ao = some ad ∧ w.cell? (ad.add j) = some u) (h1 : ∀ u ∈ news, u.oneCell' = true)
    (hnm : n + m ≤ 100000) (hby : bytes ≤ 1000)
    (h : ∀ a' c' w', App w w' e k v n m (.slice a' (n + m) c') (xs ++ news) → K (a.put o.dst (.slice a' (n + m) c')) w') : o.wp P a w K Q := by
  obtain ⟨v', w', hr, hg⟩ := run_append_all (P := P) w t o.type e z k bytes ht hi hzs hsz v n xs hown ao m c news hl hnews h1 hnm hby
  obtain ⟨a', c', rfl⟩ := hg.sl
  unfold Oper.wp execOp
  simp only [ho, resolve, invoke, builtin, Sem.run_bind, Sem.run_pure, Result.andThen_ok, List.map_toArray, List.map_cons, List.map_nil, hs, hx, hr]
  exact h a' c' w' hg
theorem wpList_append_all {P : Program} {w : World} {ops : Array Oper} {rest : List Oper} {o : Oper} {a : Act} {Q : Exit → Act → World → Prop} (hgd : o.guard = none) (s x : Operand) (t : TypeId)
    (ho : o.op = .call { callee := .builtin .append, args := #[s, x], argTypes := #[t, t] })
    (e : TypeId) (z : Value) (k bytes : Nat) (ht : P.underlying t = some (.slice e)) (hi : (P.info? e).map (fun i => (i.zero, i.size, i.bytes)) = some (some z, k, bytes)) (hzs : z.cells.size = k) (hsz : 0 < k)
    (v : Value) (n : Nat) (xs : List Value) (hs : a.eval s = v) (hown : w.ownsRow 0 e k v n xs)
    (ao : Option Addr) (m c : Nat) (news : List Value) (hx : a.eval x = .slice ao m c) (hl : news.length = m * k) (hnews : ∀ j u, news[j]? = some u → ∃ ad, ao = some ad ∧ w.cell? (ad.add j) = some u) (h1 : ∀ u ∈ news, u.oneCell' = true)
    (hnm : n + m ≤ 100000) (hby : bytes ≤ 1000)
    (h : ∀ a' c' w', App w w' e k v n m (.slice a' (n + m) c') (xs ++ news) → wpList P ops Q rest (a.put o.dst (.slice a' (n + m) c')) w') : wpList P ops Q (o :: rest) a w :=
  wpList_plain hgd fun _ hK => wp_append_all s x t ho e z k bytes ht hi hzs hsz v n xs hs hown ao m c news hx hl hnews h1 hnm hby fun a' c' w' hg => hK _ _ (h a' c' w' hg)

end Go.Proofs.YtdcinlkkjbclmaaGreat
