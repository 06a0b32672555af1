/- What run does when the labels of new disks are written, and when they are safe. -/
import Derived.Test.YtdcinlkkjbclmabGreatRStep
namespace Go.Proofs.YtdcinlkkjbclmabGreat
open Go.RowKit

def nxLabels (tb : Nat) : Value := .func (.func 107) #[.pointer (some ⟨tb, 0, none⟩)] #[]
def nxReady (tb : Nat) : Value := .func (.func 113) #[.pointer (some ⟨tb, 0, none⟩)] #[]
/-- a volume that is being opened, lc commands told -/
def opA (D S tb lc : Nat) : VA := { newA D S tb with lastC := lc }
def barriers (D : Nat) : List Cmd := (List.range D).map (fun (k : Nat) => (⟨0, 3, (k : Int), 0, .slice none 0 0⟩ : Cmd))
def readyA (D S tb lc : Nat) : VA := { newA D S tb with lastC := lc, state := 1, at' := .nilIface }

theorem run_labels (D S tb hb vb lc : Nat) (O : List Nat) (w : World) (hD : 0 < D) (hD8 : D ≤ 8) (hv : Vol w vb (opA D S tb lc) O) (ht : OpenT w tb hb vb (nxLabels tb) true) (hto : tb ∉ O) (hho : hb ∉ O) :
    Calls Tryz.prog 37 #[.pointer (some ⟨vb, 0, none⟩)] w fun e w' => e = .returned (.tuple #[]) ∧ ∃ A' O', Vol w' vb A' O' ∧ Chg (fun b => b ∈ O ∨ b = tb) w w' ∧ (∀ b ∈ O', b ∈ O ∨ w.heap.size ≤ b) ∧ (A' = { opA D S tb lc with wait := barriers D } ∧ OpenT w' tb hb vb (nxReady tb) true) := by
  have htl : tb < w.heap.size := block_lt_of_cell ht.c0
  refine run_by vb (fun k w' => (k = 1 ∧ w' = w) ∨ (k = 0 ∧ ∃ A' O', Vol w' vb A' O' ∧ Chg (fun b => b ∈ O ∨ b = tb) w w' ∧ (∀ b ∈ O', b ∈ O ∨ w.heap.size ≤ b) ∧ (A' = { opA D S tb lc with wait := barriers D } ∧ OpenT w' tb hb vb (nxReady tb) true))) _ (fun k w' hk => ?_) 1 (by omega) w (Or.inl ⟨rfl, rfl⟩)
  rcases hk with ⟨rfl, rfl⟩ | ⟨rfl, A', O', v', c', o', hA, ht'⟩
  · refine Or.inr (Or.inl ⟨opA D S tb lc, O, tb, 0, by omega, hv, ⟨(show (0 : Int) ≠ 2 by decide), rfl, rfl⟩, rfl, ?_⟩)
    have ht0 := ht.next .nilFunc
    have hc0 : Chg (fun b => b = tb) w' (w'.setCell ⟨tb, 2, none⟩ .nilFunc) := Chg.setCell (X := fun b => b = tb) (Chg.refl _ w') ⟨tb, 2, none⟩ _ (Or.inl rfl)
    have hv0 := hv.chg hc0 (fun b hb' e => hto (e ▸ hb'))
    have hlen : (opA D S tb lc).stand.length = D := List.length_replicate
    refine goOn_next tb _ _ w' ht.c2.1 ht.c2.2 enters_makeLabelsSafe ((makeLabelsSafe_any tb vb _ O .nilFunc _ hv0 hto ht0.c0 ht0.c2.1 ht0.c2.2 (by rw [hlen]; exact hD8) (by simp [opA, newA])).mono ?_)
    rintro e w1 ⟨rfl, w2, ⟨O2, v2, c2, o2⟩, rfl⟩
    have hto2 : tb ∉ O2 := fun ho => by rcases o2 _ ho with q | q; exact hto q; (have := hc0.size; omega)
    have ht2 := (ht0.chg c2 hto hho).next (nxReady tb)
    refine ⟨rfl, Or.inr ⟨rfl, _, O2, v2.chg (X := fun b => b = tb) (Chg.setCell (X := fun b => b = tb) (Chg.refl _ w2) ⟨tb, 2, none⟩ _ (Or.inl rfl)) (fun b hb' e => hto2 (e ▸ hb')), ?_, fun b hb' => ?_, ?_, ht2⟩⟩
    · exact Chg.setCell (X := fun b => b ∈ O ∨ b = tb) ((hc0.mono (fun k _ hk => Or.inr hk)).trans c2 (fun k hk => Or.inl (Or.inl hk))) ⟨tb, 2, none⟩ _ (Or.inl (Or.inr rfl))
    · have := hc0.size
      rcases o2 b hb' with q | q
      · exact Or.inl q
      · exact Or.inr (by omega)
    · rw [safe_all _ _ (fun d _ => getD_zero D d)]
      show ({ opA D S tb lc with wait := [] ++ (cur (List.replicate D 0)).map _ } : VA) = _
      rw [cur_all]
      rfl
  · refine Or.inl ⟨A', O', v', Or.inr (Or.inl ⟨by rw [hA]; exact (show (0 : Int) ≠ 2 by decide), ?_⟩), ⟨A', O', v', c', o', hA, ht'⟩⟩
    rw [hA]
    intro e
    have := congrArg List.length e
    simp [barriers] at this
    omega

theorem run_ready (D S tb hb vb lc : Nat) (O : List Nat) (w : World) (hv : Vol w vb (opA D S tb lc) O) (ht : OpenT w tb hb vb (nxReady tb) true) (hto : tb ∉ O) :
    Calls Tryz.prog 37 #[.pointer (some ⟨vb, 0, none⟩)] w fun e w' => e = .returned (.tuple #[]) ∧ ∃ A' O', Vol w' vb A' O' ∧ Chg (fun b => b ∈ O ∨ b = tb) w w' ∧ (∀ b ∈ O', b ∈ O ∨ w.heap.size ≤ b) ∧ A' = readyA D S tb lc := by
  have htl : tb < w.heap.size := block_lt_of_cell ht.c0
  refine run_by vb (fun k w' => (k = 2 ∧ w' = w) ∨ (k = 1 ∧ ∃ O', Vol w' vb { opA D S tb lc with state := 1 } O' ∧ Chg (fun b => b ∈ O ∨ b = tb) w w' ∧ (∀ b ∈ O', b ∈ O ∨ w.heap.size ≤ b) ∧ w'.cell? ⟨tb, 2, none⟩ = some .nilFunc) ∨ (k = 0 ∧ ∃ A' O', Vol w' vb A' O' ∧ Chg (fun b => b ∈ O ∨ b = tb) w w' ∧ (∀ b ∈ O', b ∈ O ∨ w.heap.size ≤ b) ∧ A' = readyA D S tb lc)) _ (fun k w' hk => ?_) 2 (by omega) w (Or.inl ⟨rfl, rfl⟩)
  rcases hk with ⟨rfl, rfl⟩ | ⟨rfl, O1, v1, c1, o1, hn1⟩ | ⟨rfl, A', O', v', c', o', hA⟩
  · refine Or.inr (Or.inl ⟨opA D S tb lc, O, tb, 1, by omega, hv, ⟨(show (0 : Int) ≠ 2 by decide), rfl, rfl⟩, rfl, ?_⟩)
    have ht0 := ht.next .nilFunc
    have hc0 : Chg (fun b => b = tb) w' (w'.setCell ⟨tb, 2, none⟩ .nilFunc) := Chg.setCell (X := fun b => b = tb) (Chg.refl _ w') ⟨tb, 2, none⟩ _ (Or.inl rfl)
    have hv0 := hv.chg hc0 (fun b hb' e => hto (e ▸ hb'))
    have hs0 := hc0.size
    refine goOn_next tb _ _ w' ht.c2.1 ht.c2.2 enters_ready ((ready_any tb vb _ O _ hv0 ht0.c0).mono ?_)
    rintro e w1 ⟨rfl, O2, v2, c2, o2⟩
    refine ⟨rfl, Or.inr (Or.inl ⟨rfl, O2, v2, (hc0.mono (fun k _ hk => Or.inr hk)).trans c2 (fun k hk => Or.inl (Or.inl hk)), fun b hb' => ?_, ?_⟩)⟩
    · rcases o2 b hb' with q | q
      · exact Or.inl q
      · exact Or.inr (by omega)
    · exact (World.cell?_of_block (a := ⟨tb, 2, none⟩) (c2.block tb (by omega) hto)).trans ht0.c2.1
  · refine Or.inr (Or.inr (Or.inl ⟨_, O1, tb, 0, by omega, v1, ⟨(show (1 : Int) ≠ 2 by decide), rfl, rfl⟩, rfl, goOn_nil tb w' hn1, Or.inr (Or.inr ⟨rfl, ?_⟩)⟩))
    obtain ⟨O2, v2, c2, o2⟩ := vol_set (A' := readyA D S tb lc) v1 3 .nilIface (fun G => by unfold volC; simp [readyA, opA, newA]) rfl rfl rfl rfl rfl
    refine ⟨_, O2, v2, c1.trans c2 (fun k hk => ?_), fun b hb' => ?_, rfl⟩
    · rcases o1 k hk with q | q
      · exact Or.inl (Or.inl q)
      · exact Or.inr q
    · have := c1.size
      rcases o2 b hb' with q | q
      · exact o1 b q
      · exact Or.inr (by omega)
  · refine Or.inl ⟨A', O', v', Or.inr (Or.inr (Or.inr ?_)), ⟨A', O', v', c', o', hA⟩⟩
    rw [hA]
    exact ⟨(show (1 : Int) ≠ 2 by decide), rfl, rfl, rfl, rfl⟩

end Go.Proofs.YtdcinlkkjbclmabGreat
