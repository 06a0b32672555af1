/- What is no volume is refused; which requests may be. -/
import Derived.Test.YtdcinlkkjbclmaaGreatLBegun
import Derived.Deep.DeepCutAuto
namespace Go.Proofs.YtdcinlkkjbclmaaGreat
open Go.RowKit

set_option maxRecDepth 100000 in
set_option maxHeartbeats 4000000 in
theorem refuse_bad (d s k n disk id : Int) (da : Option Addr) (dn dc : Nat) (W : World) (hno : ¬ ((4 ≤ d ∧ d ≤ 8) ∧ (1 ≤ s ∧ s ≤ 6))) :
    Calls Tryz.prog 8 #[.int .i64 d, .int .i64 s, .agg #[.int .i64 k, .int .i64 n, .slice da dn dc], .int .i64 disk, .int .i64 id] W fun e W' => e = .returned (.bool true) ∧ Below W.heap.size W W' := by
  have HOP := hide (fun w => platOpen_no d s true w hno)
  have HB0 := hide ((Below.refl W.heap.size W).alloc (Nat.le_refl _) (.cells #[.int .i64 k, .int .i64 n, .slice da dn dc] 38))
  have hcase : (¬ 4 ≤ d) ∨ (4 ≤ d ∧ ¬ d ≤ 8) ∨ (4 ≤ d ∧ d ≤ 8 ∧ ¬ 1 ≤ s) ∨ (4 ≤ d ∧ d ≤ 8 ∧ 1 ≤ s ∧ ¬ s ≤ 6) := by omega
  clear hno
  have hq4 : Hid (¬ s ≤ 6 → decide (s ≤ 6) = false) := fun h => by simp; omega
  rcases hcase with h1 | ⟨h1, h2⟩ | ⟨h1, h2, h3⟩ | ⟨h1, h2, h3, h4⟩
  rotate_left 3
  have hq5 := unhide hq4 h4
  all_goals
    go_enter Tryz.func8, Tryz.ntmps8
    go_wp2_with fail
    refine (unhide HOP _).mono ?_
    rintro e wx ⟨rfl, hwx⟩
    obtain rfl := hwx
    go_wp2
    go_ret
    exact ⟨rfl, unhide HB0⟩

theorem may_of (A : VA) (k n : Int) (dn : Nat) {P : Prop} [Decidable P] (h : P ↔ (0 ≤ n ∧ n < mayN A k ∧ dn = mayD k)) : mayB A k n dn = decide P := by
  unfold mayB
  rw [Bool.eq_iff_iff]
  simp only [Bool.and_eq_true, decide_eq_true_eq]
  exact h.symm
theorem may_no (A : VA) (k n : Int) (dn : Nat) (h1 : k ≠ 1) (h2 : k ≠ 2) (h3 : k ≠ 3) (h4 : k ≠ 4) : mayB A k n dn = false := by
  unfold mayB mayN
  rw [if_neg h1, if_neg h2, if_neg h3, if_neg h4]
  by_cases h : 0 ≤ n
  · have : ¬ n < 0 := by omega
    simp [this]
  · simp [h]
theorem may_n1 (D S tb lc nb : Nat) (hnb : (nb : Int) = (S : Int) * ((D : Int) - 2)) : mayN (readyA D S tb lc) 1 = (nb : Int) := by
  have hlen : (readyA D S tb lc).stand.length = D := List.length_replicate
  unfold mayN
  rw [hlen, if_pos rfl, hnb]
  rfl
theorem may_n2 (D S tb lc nb : Nat) (hnb : (nb : Int) = (S : Int) * ((D : Int) - 2)) : mayN (readyA D S tb lc) 2 = (nb : Int) := by
  have hlen : (readyA D S tb lc).stand.length = D := List.length_replicate
  unfold mayN
  rw [hlen, if_neg (by decide), if_pos rfl, hnb]
  rfl
theorem may_n3 (D S tb lc nb : Nat) (_ : (nb : Int) = (S : Int) * ((D : Int) - 2)) : mayN (readyA D S tb lc) 3 = 1 := rfl
theorem may_n4 (D S tb lc nb : Nat) (_ : (nb : Int) = (S : Int) * ((D : Int) - 2)) : mayN (readyA D S tb lc) 4 = (S : Int) := rfl
/-- what is left of the volume when a request was submitted -/
def Went (w w' : World) (O : List Nat) (vb D : Nat) : Prop := ∃ A' O', Vol w' vb A' O' ∧ A'.stand = List.replicate D 0 ∧ A'.told = [] ∧ Chg (fun b => b ∈ O) w w'
theorem went_chg {w w' : World} {O : List Nat} {vb D : Nat} (h : Went w w' O vb D) : Chg (fun b => b ∈ O) w w' := by
  obtain ⟨_, _, _, _, _, h⟩ := h
  exact h
theorem sub_yes (D S tb lc pb vb : Nat) (O : List Nat) (k n : Int) (da : Option Addr) (dn dc : Nat) (cs : List Value) (w : World) (h4 : 4 ≤ D) (h8 : D ≤ 8) (hS6 : S ≤ 6) (hv : Vol w vb (readyA D S tb lc) O) (hp : w.cell? ⟨pb, 0, none⟩ = some (.pointer (some ⟨vb, 0, none⟩))) (hpo : pb ∉ O) (hm : mayB (readyA D S tb lc) k n dn = true) (hdl : cs.length = dn) (hdo : ∀ v ∈ cs, v.oneCell' = true) (hda : ∀ j v, cs[j]? = some v → ∃ g o, da = some ⟨g, o, none⟩ ∧ w.cell? ⟨g, o + j, none⟩ = some v ∧ g ∉ O) :
    Calls Tryz.prog 17 #[.pointer (some ⟨pb, 0, none⟩), .agg #[.int .i64 k, .int .i64 n, .slice da dn dc]] w fun e w' => e = .returned (.tuple #[.int .i64 1, .int .i64 0]) ∧ Went w w' O vb D := by
  refine wrapSubmit pb vb O k n da dn dc 1 0 _ w hp hpo hv.lt (fun w' hb => (submit_yes D S tb lc vb O k n da dn dc cs w' h4 h8 hS6 (hv.new hb) hm hdl hdo (fun j v hj => ?_)).mono ?_)
  · obtain ⟨g, o, e, hc, hg⟩ := hda j v hj
    exact ⟨g, o, e, (hb.cell (p := ⟨g, o + j, none⟩) (block_lt_of_cell hc)).trans hc, hg⟩
  · rintro e w'' ⟨rfl, A', O', v', e1, e2, c', o'⟩
    exact ⟨rfl, ⟨A', O', v', e1, e2, (Chg.of_new hb).trans c' (fun x hx => Or.inl hx)⟩, c'⟩
theorem sub_no (D S tb lc pb vb : Nat) (O : List Nat) (k n : Int) (da : Option Addr) (dn dc : Nat) (w : World) (h4 : 4 ≤ D) (h8 : D ≤ 8) (hS6 : S ≤ 6) (hv : Vol w vb (readyA D S tb lc) O) (hp : w.cell? ⟨pb, 0, none⟩ = some (.pointer (some ⟨vb, 0, none⟩))) (hpo : pb ∉ O) (hm : mayB (readyA D S tb lc) k n dn = false) :
    Calls Tryz.prog 17 #[.pointer (some ⟨pb, 0, none⟩), .agg #[.int .i64 k, .int .i64 n, .slice da dn dc]] w fun e w' => e = .returned (.tuple #[.int .i64 0, .int .i64 1]) ∧ Went w w' O vb D := by
  have hlen : (readyA D S tb lc).stand.length = D := List.length_replicate
  refine wrapSubmit pb vb O k n da dn dc 0 1 _ w hp hpo hv.lt (fun w' hb => (submit_no vb (readyA D S tb lc) O k n da dn dc w' (hv.new hb) (show (1 : Int) ≠ 2 by decide) (by rw [hlen]; exact h4) (by rw [hlen]; exact h8) hS6 hm).mono ?_)
  rintro e w'' ⟨rfl, hb'⟩
  exact ⟨rfl, ⟨_, O, (hv.new hb).new hb', rfl, rfl, (Chg.of_new hb).trans (Chg.of_new (X := fun _ => False) hb') (fun _ h => h.elim)⟩, Chg.of_new hb'⟩

end Go.Proofs.YtdcinlkkjbclmaaGreat
