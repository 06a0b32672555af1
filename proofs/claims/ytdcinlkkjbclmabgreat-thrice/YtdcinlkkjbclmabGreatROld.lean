/- A rig whose disks are gone, three of them: the volume that is opened anew has failed. -/
import Derived.Test.YtdcinlkkjbclmabGreatRBegun
namespace Go.Proofs.YtdcinlkkjbclmabGreat
open Go.RowKit

def lgB (D x d : Nat) : Bool := d == x || d == (x + 1) % D || d == (x + 2) % D
def cntB (D x i : Nat) : Nat := ((List.range i).filter (lgB D x)).length
def stB (D x i : Nat) : List Int := (List.range D).map (fun d => if (decide (d < i) && lgB D x d) = true then 1 else 0)
def fctB (D x i : Nat) : Bool := (!lgB D x i || ((stB D x i).getD i 0 == 0 && (stB D x i).set i 1 == stB D x (i + 1) && decide (cntB D x i ≤ 2) && cntB D x (i + 1) == cntB D x i + 1)) && (lgB D x i || (stB D x (i + 1) == stB D x i && cntB D x (i + 1) == cntB D x i)) &&
  (decide ((D : Int) - 2 ≤ ((cur (stB D x (i + 1))).length : Int)) == decide (cntB D x (i + 1) ≤ 2)) && (stB D x i).length == D && (stB D x (i + 1)).length == D && (!(i + 1 == D) || (cntB D x (i + 1) == 3))
set_option maxRecDepth 100000 in
theorem fctB_all : ∀ D, D < 9 → 4 ≤ D → ∀ x, x < D → ∀ i, i < D → fctB D x i = true := by decide +kernel
theorem stB_zero : ∀ D, D < 9 → ∀ x, x < D + 1 → stB D x 0 = List.replicate D 0 := by decide +kernel
structure FctB (D x i : Nat) : Prop where
  at0 : lgB D x i = true → (stB D x i).getD i 0 = 0
  set : lgB D x i = true → (stB D x i).set i 1 = stB D x (i + 1)
  few : lgB D x i = true → cntB D x i ≤ 2
  cnt : lgB D x i = true → cntB D x (i + 1) = cntB D x i + 1
  same : lgB D x i = false → stB D x (i + 1) = stB D x i
  cnts : lgB D x i = false → cntB D x (i + 1) = cntB D x i
  cur : (D : Int) - 2 ≤ ((cur (stB D x (i + 1))).length : Int) ↔ cntB D x (i + 1) ≤ 2
  len : (stB D x i).length = D
  len1 : (stB D x (i + 1)).length = D
  end' : i + 1 = D → cntB D x (i + 1) = 3
theorem fct (D x i : Nat) (h4 : 4 ≤ D) (h8 : D ≤ 8) (hx : x < D) (hi : i < D) : FctB D x i := by
  have h := fctB_all D (by omega) h4 x hx i hi
  unfold fctB at h
  simp only [Bool.and_eq_true, Bool.or_eq_true, Bool.not_eq_true', beq_iff_eq, decide_eq_true_eq, beq_eq_false_iff_ne] at h
  obtain ⟨⟨⟨⟨⟨h1, h2⟩, h3⟩, h5⟩, h6⟩, h7⟩ := h
  have g1 : lgB D x i = true → ((((stB D x i).getD i 0 = 0 ∧ (stB D x i).set i 1 = stB D x (i + 1)) ∧ cntB D x i ≤ 2) ∧ cntB D x (i + 1) = cntB D x i + 1) := fun e => by
    rcases h1 with q | q
    · rw [e] at q; cases q
    · exact q
  have g2 : lgB D x i = false → (stB D x (i + 1) = stB D x i ∧ cntB D x (i + 1) = cntB D x i) := fun e => by
    rcases h2 with q | q
    · rw [e] at q; cases q
    · exact q
  refine ⟨fun e => (g1 e).1.1.1, fun e => (g1 e).1.1.2, fun e => (g1 e).1.2, fun e => (g1 e).2, fun e => (g2 e).1, fun e => (g2 e).2, ?_, h5, h6, fun e => ?_⟩
  · constructor
    · intro q
      have : decide (cntB D x (i + 1) ≤ 2) = true := by rw [← h3]; simpa using q
      simpa using this
    · intro q
      have : decide ((D : Int) - 2 ≤ ((cur (stB D x (i + 1))).length : Int)) = true := by rw [h3]; simpa using q
      simpa using this
  · rcases h7 with q | q
    · exact absurd e q
    · exact q
/-- the volume when i of its labels have been asked for -/
def oldA (D S tb x i : Nat) (L : List Cmd) : VA := if cntB D x i ≤ 2 then { opA D S tb D with stand := stB D x i, told := L.map noData } else { opA D S tb D with stand := stB D x i, told := L.map noData, state := 2, at' := .nilIface }

theorem carry_gen (gb D S pb vb tb hb lb N B : Nat) (W0 : World) (O : List Nat) (Lg : Nat → Bool) (A : VA) (n : Int) (d : Nat) (nx : Value) (fr : Bool) (P : VA → Prop) (w : World) (hB : B ≤ w.heap.size) (hbO : ∀ b ∈ O, B ≤ b) (hbt : B ≤ tb) (hbh : B ≤ hb) (hbl : B ≤ lb) (hbel : Below B W0 w) (hr : Rig w gb D S pb vb (Pl O B) Lg N) (hN : N ≤ 100000) (hv : Vol w vb A O) (ht : OpenT w tb hb vb nx fr) (hto : tb ∉ O) (hho : hb ∉ O) (hlo : lb ∉ O) (hll : lb < w.heap.size) (hd : d < D)
    (hdone : ∀ w1 dv, Vol w1 vb A O → OpenT w1 tb hb vb nx fr → Back w1 (Pl O B) (Lg d) 1 dv → Calls Tryz.prog 54 #[.pointer (some ⟨vb, 0, none⟩), .int .i64 n, .bool (!Lg d), dv] w1 fun e w' => e = .returned (.int .i64 0) ∧ ∃ A' O', Vol w' vb A' O' ∧ Chg (fun b => b ∈ O ∨ b = tb ∨ b = hb) w1 w' ∧ (∀ b ∈ O', b ∈ O ∨ w1.heap.size ≤ b) ∧ OpenT w' tb hb vb nx fr ∧ P A') :
    Calls Tryz.prog 25 #[.pointer (some ⟨gb, 0, none⟩), .agg #[.int .i64 n, .int .i64 1, .int .i64 (d : Int), .int .i64 0, .slice none 0 0]] w fun e w' => e = .returned (.bool true) ∧ (∃ A' O', Rig w' gb D S pb vb (Pl O' B) Lg (N + 1) ∧ Vol w' vb A' O' ∧ (∀ b ∈ O', B ≤ b) ∧ Below B W0 w' ∧ OpenT w' tb hb vb nx fr ∧ P A' ∧ tb ∉ O' ∧ hb ∉ O' ∧ lb ∉ O' ∧ lb < w'.heap.size) ∧ ∀ cs, Blk w lb cs 64 → Blk w' lb cs 64 := by
  have htl : tb < w.heap.size := block_lt_of_cell ht.c0
  have hhl := ht.map.lt
  refine (carry_any gb D S pb vb (Pl O B) Lg N n 1 d 0 none 0 0 (fun w' => (∃ A' O', Rig w' gb D S pb vb (Pl O' B) Lg (N + 1) ∧ Vol w' vb A' O' ∧ (∀ b ∈ O', B ≤ b) ∧ Below B W0 w' ∧ OpenT w' tb hb vb nx fr ∧ P A' ∧ tb ∉ O' ∧ hb ∉ O' ∧ lb ∉ O' ∧ lb < w'.heap.size) ∧ ∀ cs, Blk w lb cs 64 → Blk w' lb cs 64) w hr hN (fun b hb' => by rcases mem_pl.1 hb' with q | q; exact hv.lt b q; omega) hd (by omega) (fun _ hk => absurd hk (by decide)) (fun w1 dv hm hr1 hbk => ?_)).mono (fun e w' h => h)
  have hv1 := hm.vol hv
  have ht1 := hm.opn ht
  have hs1 := hm.size
  have hbel1 := Below.on hbel hB hm (fun b hx => by rcases Nat.lt_or_ge b B with q | q; exact absurd (mem_pl.2 (Or.inr q)) hx.1; exact q)
  refine wrapDone pb vb n (!Lg d) dv 0 _ w1 (hr1.vol.cell 0) ((hdone w1 dv hv1 ht1 hbk).mono ?_)
  rintro e w3 ⟨rfl, A3, O3, v3, c3, o3, t3, hP⟩
  have hs3 := c3.size
  refine ⟨rfl, ⟨⟨A3, O3, hr1.beside c3 ht1 o3, v3, fun b hb' => ?_, Below.on hbel1 (by omega) c3 (fun b hx => ?_), t3, hP, ?_, ?_, ?_, by omega⟩, fun cs hcs => ?_⟩, kept_of c3 ht1⟩
  · rcases o3 b hb' with q | q; exact hbO b q; omega
  · rcases hx with q | q | q; exact hbO b q; omega; omega
  · intro ho; rcases o3 _ ho with q | q; exact hto q; omega
  · intro ho; rcases o3 _ ho with q | q; exact hho q; omega
  · intro ho; rcases o3 _ ho with q | q; exact hlo q; omega
  · exact kept_of (B := B) c3 ht1 lb cs _ (fun h => by rcases mem_pl.1 h with q | q; exact hlo q; omega) (hm.cmd hcs) (Or.inr rfl)

end Go.Proofs.YtdcinlkkjbclmabGreat
