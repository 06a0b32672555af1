/- A Write and a Flush are asked for; three disks are lost. -/
import Derived.Test.YtdcinlkkjbclmabGreatROpen
namespace Go.Proofs.YtdcinlkkjbclmabGreat
open Go.RowKit

def readsD (D : Nat) (s : Int) : List Cmd := (List.range D).flatMap (fun (d : Nat) => [(⟨0, 1, (d : Int), 17 + 2 * s, .slice none 0 0⟩ : Cmd), ⟨0, 1, (d : Int), 17 + 2 * s + 1, .slice none 0 0⟩])
def wrA (D S tb0 lc tb : Nat) (n : Int) (bs : List Value) : VA := { readyA D S tb0 lc with at' := wrtV tb, wait := readsD D (n / ((D : Int) - 2)), lastR := 1, reqs := [.int .i64 1 :: .int .i64 2 :: .int .i64 n :: bs], first := true }
def flA (D S tb0 lc tb : Nat) (n : Int) (bs cs : List Value) : VA := { wrA D S tb0 lc tb n bs with lastR := 2, reqs := [.int .i64 1 :: .int .i64 2 :: .int .i64 n :: bs, .int .i64 2 :: .int .i64 3 :: .int .i64 0 :: cs] }
theorem reads_ne (D : Nat) (s : Int) (h : 0 < D) : readsD D s ≠ [] := by
  obtain ⟨k, rfl⟩ : ∃ k, D = k + 1 := ⟨D - 1, by omega⟩
  intro e
  have := congrArg List.length e
  unfold readsD at this
  rw [List.range_succ_eq_map] at this
  simp at this

set_option maxHeartbeats 1000000 in
theorem submitWrite (D S tb0 lc pb vb : Nat) (O : List Nat) (n : Int) (g dc : Nat) (cs : Array Value) (w : World) (h4 : 4 ≤ D) (h8 : D ≤ 8) (hS1 : 1 ≤ S) (hS6 : S ≤ 6) (hn0 : 0 ≤ n) (hn1 : n < (D : Int) - 2) (hv : Vol w vb (readyA D S tb0 lc) O) (hp : w.cell? ⟨pb, 0, none⟩ = some (.pointer (some ⟨vb, 0, none⟩))) (hpo : pb ∉ O) (hg : Blk w g cs 5) (hgo : g ∉ O) (hcs : cs.size = 16) (hby : Bytes cs 16) :
    Calls Tryz.prog 14 #[.pointer (some ⟨pb, 0, none⟩), .agg #[.int .i64 2, .int .i64 n, .slice (some ⟨g, 0, none⟩) 16 dc]] w fun e w' => e = .returned (.tuple #[.int .i64 1, .int .i64 0]) ∧ ∃ (tb : Nat) (bs : List Value) (O' : List Nat), bs.length = 16 ∧ Vol w' vb (wrA D S tb0 lc tb n bs) O' ∧ Chg (fun b => b ∈ O) w w' ∧ ∀ b ∈ O', b ∈ O ∨ w.heap.size ≤ b := by
  have hlen : (readyA D S tb0 lc).stand.length = D := List.length_replicate
  have hbl : n < (S : Int) * ((D : Int) - 2) := by
    have h1 : (1 : Int) * ((D : Int) - 2) ≤ (S : Int) * ((D : Int) - 2) := Int.mul_le_mul_of_nonneg_right (by omega) (by omega)
    omega
  refine wrapSubmit pb vb O 2 n (some ⟨g, 0, none⟩) 16 dc 1 0 _ w hp hpo hv.lt (fun w0 hw0 => ?_)
  have hv0 := hv.new hw0
  have hg0 := hg.below hw0 hg.lt
  have hs0 := hw0.size
  refine (submit_by vb _ O 2 n (some ⟨g, 0, none⟩) 16 dc cs.toList (fun w' => (∃ (tb : Nat) (bs : List Value) (O' : List Nat), bs.length = 16 ∧ Vol w' vb (wrA D S tb0 lc tb n bs) O' ∧ Chg (fun b => b ∈ O) w w' ∧ ∀ b ∈ O', b ∈ O ∨ w.heap.size ≤ b) ∧ Chg (fun b => b ∈ O) w0 w') w0 hv0 (show (1 : Int) ≠ 2 by decide) (by simp [readyA, newA]) (by simp [readyA, newA]) (by simpa using hcs) (Or.inr rfl) (fun v hv' => ?_) (fun j v hj => ⟨g, 0, rfl, by rw [Nat.zero_add, hg0.cell, ← Array.getElem?_toList]; exact hj, hgo⟩) (fun w1 hw1 => mayWrite_any vb _ O n _ dc w1 (hv0.new hw1) (by rw [hlen]; exact h4) (by rw [hlen]; exact h8) hS6 hn0 (by rw [hlen]; exact hbl)) (fun w1 O1 bs hbs v1 c1 o1 => ?_)).mono (fun e w' h => h)
  · obtain ⟨j, hj, e⟩ := List.getElem_of_mem hv'
    obtain ⟨x, _, hx⟩ := hby j (by simpa [hcs] using hj)
    rw [← Array.getElem?_toList, List.getElem?_eq_getElem hj, e] at hx
    cases hx; rfl
  · have hl1 : ({ readyA D S tb0 lc with lastR := 0 + 1, reqs := [] ++ [.int .i64 ((0 : Nat) + 1 : Int) :: .int .i64 2 :: .int .i64 n :: bs] } : VA).stand.length = D := List.length_replicate
    have hs1 := c1.size
    refine (run_by vb (fun k w' => (k = 1 ∧ w' = w1) ∨ (k = 0 ∧ ∃ tb O', Vol w' vb (wrA D S tb0 lc tb n bs) O' ∧ Chg (fun b => b ∈ O1) w1 w' ∧ ∀ b ∈ O', b ∈ O1 ∨ w1.heap.size ≤ b)) (fun w' => ∃ tb O', Vol w' vb (wrA D S tb0 lc tb n bs) O' ∧ Chg (fun b => b ∈ O1) w1 w' ∧ ∀ b ∈ O', b ∈ O1 ∨ w1.heap.size ≤ b) (fun k w' hk => ?_) 1 (by omega) w1 (Or.inl ⟨rfl, rfl⟩)).mono ?_
    · rcases hk with ⟨rfl, rfl⟩ | ⟨rfl, tb, O', v', c', o'⟩
      · refine Or.inr (Or.inr (Or.inr ⟨_, O1, 0, by omega, v1, ⟨(show (1 : Int) ≠ 2 by decide), rfl, rfl⟩, rfl, by simp, ?_⟩))
        refine (writeTurn vb _ O1 _ n bs [] w' v1 rfl hbs (by rw [hl1]; exact h4) (by rw [hl1]; exact h8) hn0 (by rw [hl1]; omega) (by simp [readyA, newA])).mono ?_
        rintro e w2 ⟨v, rfl, hst⟩
        refine ⟨v, rfl, hst.mono ?_⟩
        rintro e w3 ⟨rfl, tb, O3, v3, c3, o3⟩
        refine ⟨rfl, Or.inr ⟨rfl, tb, O3, ?_, c3, o3⟩⟩
        rw [stripe_all _ _ _ (fun d _ => getD_zero D d)] at v3
        have e : ({ readyA D S tb0 lc with lastR := 0 + 1, reqs := [] ++ [.int .i64 ((0 : Nat) + 1 : Int) :: .int .i64 2 :: .int .i64 n :: bs], first := true, at' := wrtV tb, wait := [] ++ (cur (List.replicate D 0)).flatMap (fun (d : Nat) => [(⟨0, 1, (d : Int), 17 + 2 * (n / (((List.replicate D (0 : Int)).length : Int) - 2)), .slice none 0 0⟩ : Cmd), ⟨0, 1, (d : Int), 17 + 2 * (n / (((List.replicate D (0 : Int)).length : Int) - 2)) + 1, .slice none 0 0⟩]) } : VA) = wrA D S tb0 lc tb n bs := by
          rw [cur_all, List.length_replicate]
          rfl
        rw [← e]
        exact v3
      · exact Or.inl ⟨_, O', v', Or.inr (Or.inl ⟨(show (1 : Int) ≠ 2 by decide), reads_ne D _ (by omega)⟩), tb, O', v', c', o'⟩
    · rintro e w' ⟨rfl, tb, O', v', c', o'⟩
      have hc : Chg (fun b => b ∈ O) w0 w' := c1.trans c' o1
      refine ⟨rfl, ⟨⟨tb, bs, O', hbs, v', (Chg.of_new (X := fun b => b ∈ O) hw0).trans hc (fun k hk => Or.inl hk), fun b hb' => ?_⟩, hc⟩, c'⟩
      rcases o' b hb' with q | q
      · rcases o1 b q with q | q
        · exact Or.inl q
        · exact Or.inr (by omega)
      · exact Or.inr (by omega)

set_option maxHeartbeats 1000000 in
theorem submitFlush (D S tb0 lc pb vb tb : Nat) (O : List Nat) (n : Int) (bs : List Value) (w : World) (h4 : 4 ≤ D) (hv : Vol w vb (wrA D S tb0 lc tb n bs) O) (hp : w.cell? ⟨pb, 0, none⟩ = some (.pointer (some ⟨vb, 0, none⟩))) (hpo : pb ∉ O) :
    Calls Tryz.prog 14 #[.pointer (some ⟨pb, 0, none⟩), .agg #[.int .i64 3, .int .i64 0, .slice none 0 0]] w fun e w' => e = .returned (.tuple #[.int .i64 2, .int .i64 0]) ∧ ∃ (cs : List Value) (O' : List Nat), Vol w' vb (flA D S tb0 lc tb n bs cs) O' ∧ Chg (fun b => b ∈ O) w w' ∧ ∀ b ∈ O', b ∈ O ∨ w.heap.size ≤ b := by
  refine wrapSubmit pb vb O 3 0 none 0 0 2 0 _ w hp hpo hv.lt (fun w0 hw0 => ?_)
  have hv0 := hv.new hw0
  have hs0 := hw0.size
  refine (submit_by vb _ O 3 0 none 0 0 [] (fun w' => (∃ (cs : List Value) (O' : List Nat), Vol w' vb (flA D S tb0 lc tb n bs cs) O' ∧ Chg (fun b => b ∈ O) w w' ∧ ∀ b ∈ O', b ∈ O ∨ w.heap.size ≤ b) ∧ Chg (fun b => b ∈ O) w0 w') w0 hv0 (show (1 : Int) ≠ 2 by decide) (by simp [wrA]) (by simp [wrA]) rfl (Or.inl rfl) (fun v hv' => by simp at hv') (fun j v hj => by simp at hj) (fun w1 _ => mayFlush_any vb w1) (fun w1 O1 cs hcs v1 c1 o1 => ?_)).mono (fun e w' h => h)
  refine (run_idle vb _ O1 w1 v1 (Or.inr (Or.inl ⟨(show (1 : Int) ≠ 2 by decide), reads_ne D _ (by omega)⟩))).mono ?_
  rintro e w' ⟨rfl, rfl⟩
  refine ⟨rfl, ⟨⟨cs, O1, v1, (Chg.of_new (X := fun b => b ∈ O) hw0).trans c1 (fun k hk => Or.inl hk), fun b hb' => ?_⟩, c1⟩, Chg.refl _ _⟩
  rcases o1 b hb' with q | q
  · exact Or.inl q
  · exact Or.inr (by omega)

end Go.Proofs.YtdcinlkkjbclmabGreat
