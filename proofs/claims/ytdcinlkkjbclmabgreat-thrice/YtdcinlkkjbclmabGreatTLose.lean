/- Three disks are lost. -/
import Derived.Test.YtdcinlkkjbclmabGreatTAsk
namespace Go.Proofs.YtdcinlkkjbclmabGreat
open Go.RowKit

def lgK (D x k d : Nat) : Bool := (List.range k).any (fun j => d == (x + j) % D)
def stK (D x k : Nat) : List Int := (List.range D).map (fun d => if lgK D x k d = true then 1 else 0)
def fctK (D x k : Nat) : Bool := (stK D x k).length == D && (stK D x k).getD ((x + k) % D) 0 == 0 && (stK D x k).set ((x + k) % D) 1 == stK D x (k + 1) && (cur (stK D x (k + 1))).length + (k + 1) == D && (k == 2 || !((x + k) % D == (x + 2) % D))
set_option maxRecDepth 100000 in
theorem fctK_all : ∀ D, D < 9 → 4 ≤ D → ∀ x, x < D → ∀ k, k < 3 → fctK D x k = true := by decide +kernel
theorem stK_zero : ∀ D, D < 9 → ∀ x, x < D + 1 → stK D x 0 = List.replicate D 0 := by decide +kernel
set_option maxRecDepth 100000 in
theorem lgK_three : ∀ D, D < 9 → ∀ x, x < D → ∀ d, d < D → lgK D x 3 d = lgB D x d := by decide +kernel
theorem fctK_of (D x k : Nat) (h4 : 4 ≤ D) (h8 : D ≤ 8) (hx : x < D) (hk : k < 3) : (stK D x k).length = D ∧ (stK D x k).getD ((x + k) % D) 0 = 0 ∧ (stK D x k).set ((x + k) % D) 1 = stK D x (k + 1) ∧ (cur (stK D x (k + 1))).length + (k + 1) = D ∧ (k < 2 → (x + k) % D ≠ (x + 2) % D) := by
  have h := fctK_all D (by omega) h4 x hx k hk
  unfold fctK at h
  simp only [Bool.and_eq_true, Bool.or_eq_true, Bool.not_eq_true', beq_iff_eq, beq_eq_false_iff_ne] at h
  obtain ⟨⟨⟨⟨h1, h2⟩, h3⟩, h4'⟩, h5⟩ := h
  exact ⟨h1, h2, h3, h4', fun hk2 => by rcases h5 with q | q; omega; exact q⟩
theorem Rig.congr {w : World} {gb D S pb vb : Nat} {O : List Nat} {L L' : Nat → Bool} {N : Nat} (h : Rig w gb D S pb vb O L N) (hL : ∀ d, d < D → L d = L' d) : Rig w gb D S pb vb O L' N := by
  obtain ⟨ss, gs, dn, h1, h2, h3, b, c, cs, e, q1, q2, q3⟩ := h.own
  exact ⟨h.dsk, h.str, ⟨ss, gs, dn, h1, h2, h3, b, c, cs, e, q1, q2, fun i hi => by rw [← hL i hi]; exact q3 i hi⟩, h.gno, h.pno, h.vol⟩
set_option maxRecDepth 100000 in
set_option maxHeartbeats 2000000 in
theorem rigLose (gb D S pb vb : Nat) (O : List Nat) (L : Nat → Bool) (N d B : Nat) (W0 : World) (A A' : VA) (w : World) (hB : B ≤ w.heap.size) (hbO : ∀ b ∈ O, B ≤ b) (hbel : Below B W0 w) (hr : Rig w gb D S pb vb (Pl O B) L N) (hv : Vol w vb A O) (hd : d < D)
    (hfail : ∀ w1, Vol w1 vb A O → Calls Tryz.prog 31 #[.pointer (some ⟨vb, 0, none⟩), .int .i64 (d : Int)] w1 fun e w' => e = .returned (.int .i64 0) ∧ Step w1 O w' vb A') :
    Calls Tryz.prog 9 #[.pointer (some ⟨gb, 0, none⟩), .int .i64 (d : Int)] w fun e w' => e = .returned (.bool true) ∧ ∃ O', Rig w' gb D S pb vb (Pl O' B) (fun k => L k || k == d) N ∧ Vol w' vb A' O' ∧ (∀ b ∈ O', B ≤ b) ∧ Below B W0 w' := by
  obtain ⟨ss, gs, dn, h1, h2, h3, ob, oc, ocs, e, q1, q2, q3⟩ := hr.own
  subst e
  have hos : d < ocs.size := (Array.getElem?_eq_some_iff.1 (q3 d hd)).1
  have m4 : w.cell? ⟨gb, 4, none⟩ = some (.slice (some ⟨ob, 0, none⟩) D oc) := h2.cell 4
  have o1 : w.cell? ⟨ob, d, none⟩ = some (.bool (L d)) := (q2.cell d).trans (q3 d hd)
  have o2 := q2.free d
  have hob : ob ∉ O ∧ B ≤ ob := ⟨fun h => q1 (mem_pl.2 (Or.inl h)), by rcases Nat.lt_or_ge ob B with h | h; exact absurd (mem_pl.2 (Or.inr h)) q1; exact h⟩
  have hch : Chg (fun b => b = ob) w (w.setCell ⟨ob, d, none⟩ (.bool true)) := Chg.setCell (X := fun b => b = ob) (Chg.refl _ w) ⟨ob, d, none⟩ _ (Or.inl rfl)
  have hne : ∀ b cs t, Blk w b cs t → t ≠ 4 → b ≠ ob := fun b cs t hb ht e => by
    subst e
    exact ht (Blk.same hb q2).2
  have hv1 := hv.chg hch (fun b hb e => hob.1 (e ▸ hb))
  have hbel1 := Below.on hbel hB hch (fun b hb => by omega)
  have hr1 : Rig (w.setCell ⟨ob, d, none⟩ (.bool true)) gb D S pb vb (Pl O B) (fun k => L k || k == d) N := by
    have hds : Dsks (w.setCell ⟨ob, d, none⟩ (.bool true)) (Pl O B) D (17 + 2 * S) ss := by
      obtain ⟨b, c, bs, rfl, r1, r2, r4, r3⟩ := h3
      refine ⟨b, c, bs, rfl, r1, r2.chg hch (hne _ _ _ r2 (by decide)), r4, fun i u hi hu => (r3 i u hi hu).keep hch (fun b cs t hb ht => hne b cs t hb (by rcases ht with rfl | rfl <;> decide))⟩
    refine ⟨hr.dsk, hr.str, ⟨ss, _, dn, h1, h2.chg hch (hne _ _ _ h2 (by decide)), hds, ob, oc, _, rfl, q1, q2.set d (.bool true), fun i hi => ?_⟩, hr.gno, hr.pno, hr.vol.chg hch (hne _ _ _ hr.vol (by decide))⟩
    by_cases hid : d = i
    · subst hid
      rw [set_at hos]
      simp
    · rw [set_ne hid, q3 i hi]
      have : (i == d) = false := beq_eq_false_iff_ne.2 (fun e => hid e.symm)
      show some (Value.bool (L i)) = some (Value.bool (L i || i == d))
      rw [this, Bool.or_false]
  have p2 : (w.setCell ⟨ob, d, none⟩ (.bool true)).cell? ⟨gb, 2, none⟩ = some (.pointer (some ⟨pb, 0, none⟩)) := by
    obtain ⟨_, _, _, _, q, _⟩ := hr1.own
    exact q.cell 2
  have HF := hide (wrapFail pb vb (d : Int) 0 _ _ (hr1.vol.cell 0) (hfail _ hv1))
  have HR1 := hide hr1
  have HBE := hide hbel1
  have hs1 : B ≤ (w.setCell ⟨ob, d, none⟩ (.bool true)).heap.size := Nat.le_trans hB hch.size
  have id0 : (0 : Int) ≤ (d : Int) := by omega
  have id1 : (d : Int) < (D : Int) := by omega
  have HBO := hide hbO
  clear hr hv hfail h1 h2 h3 q1 q2 q3 hob hch hne hv1 hbel1 hr1 hbel hbO hos
  go_enter Tryz.func9, Tryz.ntmps9
  go_wp2_with fail
  refine (unhide HF).mono ?_
  rintro e w2 ⟨rfl, O2, v2, c2, o2'⟩
  have HV2 := hide v2
  have HC2 := hide c2
  have HO2 := hide o2'
  clear v2 c2 o2' HF
  go_wp2
  go_ret
  have hs2 := (unhide HC2).size
  exact ⟨rfl, O2, rig_step (unhide HR1) (unhide HC2) (unhide HO2), unhide HV2, fun b hb => by (rcases unhide HO2 b hb with q | q; exact unhide HBO b q; omega), Below.on (unhide HBE) hs1 (unhide HC2) (fun b hb => unhide HBO b hb)⟩

/-- the volume behind k losses -/
def lossA (D S tb0 lc tb x k : Nat) (n : Int) (bs cs : List Value) (A : VA) : Prop :=
  (k ≤ 2 ∧ ∃ wt, A = { flA D S tb0 lc tb n bs cs with stand := stK D x k, wait := wt } ∧ ∃ c ∈ wt, c.disk = (((x + 2) % D : Nat) : Int)) ∨
  (k = 3 ∧ A = { flA D S tb0 lc tb n bs cs with stand := stK D x 3, wait := [], state := 2, at' := .nilIface, reqs := [], ress := [[.int .i64 1, .int .i64 3, .slice none 0 0, .int .i64 0, .int .i64 0], [.int .i64 2, .int .i64 3, .slice none 0 0, .int .i64 0, .int .i64 0]] })
theorem loss_zero (D S tb0 lc tb x : Nat) (n : Int) (bs cs : List Value) (h4 : 4 ≤ D) (h8 : D ≤ 8) (hx : x < D) : lossA D S tb0 lc tb x 0 n bs cs (flA D S tb0 lc tb n bs cs) := by
  refine Or.inl ⟨by omega, readsD D (n / ((D : Int) - 2)), ?_, ?_⟩
  · rw [stK_zero D (by omega) x (by omega)]
    rfl
  · refine ⟨⟨0, 1, (((x + 2) % D : Nat) : Int), 17 + 2 * (n / ((D : Int) - 2)), .slice none 0 0⟩, ?_, rfl⟩
    unfold readsD
    rw [List.mem_flatMap]
    exact ⟨(x + 2) % D, List.mem_range.2 (Nat.mod_lt _ (by omega)), by simp⟩
theorem loss_step (D S tb0 lc tb vb x k : Nat) (n : Int) (bs cs : List Value) (A : VA) (O : List Nat) (h4 : 4 ≤ D) (h8 : D ≤ 8) (hx : x < D) (hk : k < 3) (h : lossA D S tb0 lc tb x k n bs cs A) :
    ∃ A', lossA D S tb0 lc tb x (k + 1) n bs cs A' ∧ ∀ w1, Vol w1 vb A O → Calls Tryz.prog 31 #[.pointer (some ⟨vb, 0, none⟩), .int .i64 (((x + k) % D : Nat) : Int)] w1 fun e w' => e = .returned (.int .i64 0) ∧ Step w1 O w' vb A' := by
  obtain ⟨f1, f2, f3, f4, f5⟩ := fctK_of D x k h4 h8 hx hk
  rcases h with ⟨_, wt, rfl, c, hc, hcd⟩ | ⟨rfl, _⟩
  · have hmod : (x + k) % D < D := Nat.mod_lt _ (by omega)
    have hlost : lostA { flA D S tb0 lc tb n bs cs with stand := stK D x k, wait := wt } ((x + k) % D) = { flA D S tb0 lc tb n bs cs with stand := stK D x (k + 1), wait := wt.filter (fun c => c.disk != (((x + k) % D : Nat) : Int)) } := by
      unfold lostA
      rw [← f3]
    have hlen1 : (stK D x (k + 1)).length = D := by rw [← f3, List.length_set]; exact f1
    have key : lossA D S tb0 lc tb x (k + 1) n bs cs (failA (lostA { flA D S tb0 lc tb n bs cs with stand := stK D x k, wait := wt } ((x + k) % D))) ∧ Idle (failA (lostA { flA D S tb0 lc tb n bs cs with stand := stK D x k, wait := wt } ((x + k) % D))) := by
      rw [hlost]
      unfold failA
      rcases Nat.lt_or_ge k 2 with hk2 | hk2
      · rw [if_pos (by show ((stK D x (k + 1)).length : Int) - 2 ≤ ((cur (stK D x (k + 1))).length : Int); rw [hlen1]; omega)]
        have hmem : c ∈ wt.filter (fun c => c.disk != (((x + k) % D : Nat) : Int)) := by
          rw [List.mem_filter]
          refine ⟨hc, ?_⟩
          rw [hcd]
          have := f5 hk2
          simp only [bne_iff_ne, ne_eq]
          omega
        refine ⟨Or.inl ⟨by omega, _, rfl, c, hmem, hcd⟩, Or.inr (Or.inl ⟨(show (1 : Int) ≠ 2 by decide), fun e => ?_⟩)⟩
        have e' : wt.filter (fun c => c.disk != (((x + k) % D : Nat) : Int)) = [] := e
        rw [e'] at hmem
        simp at hmem
      · obtain rfl : k = 2 := by omega
        rw [if_neg (by
          have f4' : (cur (stK D x 3)).length + 3 = D := f4
          have hl3 : (stK D x 3).length = D := hlen1
          show ¬ (((stK D x 3).length : Int) - 2 ≤ ((cur (stK D x 3)).length : Int))
          rw [hl3]
          omega)]
        exact ⟨Or.inr ⟨rfl, rfl⟩, Or.inl rfl⟩
    refine ⟨_, key.1, fun w1 v1 => fail_any vb tb _ O ((x + k) % D) w1 v1 (by show (x + k) % D < (stK D x k).length; rw [f1]; exact hmod) (by show (stK D x k).getD ((x + k) % D) 0 ≠ 1; rw [f2]; decide) rfl (by show (stK D x k).length ≤ 8; rw [f1]; exact h8) (by show 4 ≤ (stK D x k).length; rw [f1]; exact h4) (by simp [flA]) (by simp [flA, wrA, readyA, newA]) ?_ key.2⟩
    intro y hy
    have hy' : y = .int .i64 1 :: .int .i64 2 :: .int .i64 n :: bs ∨ y = .int .i64 2 :: .int .i64 3 :: .int .i64 0 :: cs := by simpa [flA] using hy
    rcases hy' with rfl | rfl
    · exact ⟨_, _, rfl⟩
    · exact ⟨_, _, rfl⟩
  · omega

theorem submitFailed (pb vb : Nat) (A : VA) (O : List Nat) (k n : Int) (w : World) (hv : Vol w vb A O) (hs : A.state = 2) (hp : w.cell? ⟨pb, 0, none⟩ = some (.pointer (some ⟨vb, 0, none⟩))) (hpo : pb ∉ O) :
    Calls Tryz.prog 14 #[.pointer (some ⟨pb, 0, none⟩), .agg #[.int .i64 k, .int .i64 n, .slice none 0 0]] w fun e w' => e = .returned (.tuple #[.int .i64 0, .int .i64 3]) ∧ Below w.heap.size w w' := by
  refine wrapSubmit pb vb O k n none 0 0 0 3 (fun w' => Below w.heap.size w w') w hp hpo hv.lt (fun w0 hw0 => ?_)
  refine (submit_failed vb A O k n none 0 0 w0 (hv.new hw0) hs).mono ?_
  rintro e w1 ⟨rfl, hb⟩
  exact ⟨rfl, hw0.trans (hb.mono hw0.size), Chg.of_new hb⟩
/-- the volume behind three losses -/
def finA (D S tb0 lc tb x : Nat) (n : Int) (bs cs : List Value) : VA := { flA D S tb0 lc tb n bs cs with stand := stK D x 3, wait := [], state := 2, at' := .nilIface, reqs := [], ress := [[.int .i64 1, .int .i64 3, .slice none 0 0, .int .i64 0, .int .i64 0], [.int .i64 2, .int .i64 3, .slice none 0 0, .int .i64 0, .int .i64 0]] }
theorem loss_three {D S tb0 lc tb x : Nat} {n : Int} {bs cs : List Value} {A : VA} (h : lossA D S tb0 lc tb x 3 n bs cs A) : A = finA D S tb0 lc tb x n bs cs := by
  rcases h with ⟨q, _⟩ | ⟨_, e⟩
  · omega
  · exact e
theorem two_results {w : World} {base : Nat} {v : Value} {l : List Value} (h : w.ownsRow base 39 5 v 2 l) : ∃ rb rc cur, v = .slice (some ⟨rb, 0, none⟩) 2 rc ∧ Blk w rb cur 39 ∧ ∀ j, j < 10 → cur[j]? = l[j]? := by
  rcases h.2 with ⟨_, q⟩ | ⟨g, cap, cur, e, _, hh, _, _, _, htk⟩
  · omega
  · refine ⟨g, cap, cur, e, hh, fun j hj => ?_⟩
    rw [← htk, List.getElem?_take, if_pos (by omega), Array.getElem?_toList]

end Go.Proofs.YtdcinlkkjbclmabGreat
