/- The rig opens its volume anew. -/
import Derived.Test.YtdcinlkkjbclmabGreatTLose
namespace Go.Proofs.YtdcinlkkjbclmabGreat
open Go.RowKit

theorem oldw_of {W w w1 w2 : World} {D S pb vb vb2 tb2 hb2 pb2 M x : Nat} {A : VA} {O O2 : List Nat} {nx : Value} (hr : Rig w W.heap.size D S pb vb (Pl O W.heap.size) (lgB D x) M) (hbe : Below W.heap.size W w) (hop : Opened w.drew w1 D S false vb2 tb2 hb2 A O2 nx) (hw2 : w2 = w1.alloc (.cells #[.pointer (some ⟨vb2, 0, none⟩)] 61)) (hpb : pb2 = w1.heap.size) :
    OldW W W.heap.size D S pb2 vb2 tb2 hb2 M x nx (w2.setCell ⟨W.heap.size, 2, none⟩ (.pointer (some ⟨pb2, 0, none⟩))) := by
  obtain ⟨ss, gs, dn, hdn, hgb, hdk, hgo⟩ := hr.own
  have hsz := hgb.lt
  have hWw := hbe.size
  have hs1 : w.heap.size ≤ w1.heap.size := hop.new.size
  have hlt := hop.vol.lt
  have hww2 : Below w.heap.size w w2 := opened_below hop hw2
  have hb12 : Below w1.heap.size w1 w2 := by rw [hw2]; exact (Below.refl _ _).alloc (Nat.le_refl _) _
  have hpk : Blk w2 pb2 #[.pointer (some ⟨vb2, 0, none⟩)] 61 := by rw [hw2, hpb]; exact Blk.new w1 _ _
  have hO : ∀ b ∈ O2, w.heap.size ≤ b := hop.own
  have ht0 : w.heap.size ≤ tb2 := hop.tnew
  have hh0 : w.heap.size ≤ hb2 := hop.hnew
  have hcs : Chg (fun b => b = W.heap.size) w2 (w2.setCell ⟨W.heap.size, 2, none⟩ (.pointer (some ⟨pb2, 0, none⟩))) := Chg.setCell (X := fun b => b = W.heap.size) (Chg.refl _ w2) ⟨W.heap.size, 2, none⟩ _ (Or.inl rfl)
  have hc3 : Chg (fun b => b = W.heap.size) w (w2.setCell ⟨W.heap.size, 2, none⟩ (.pointer (some ⟨pb2, 0, none⟩))) := (Chg.of_new hww2).trans hcs (fun k hk => Or.inl hk)
  have hX : ∀ b cs t, Blk w b cs t → diskT t → b ∉ Pl O W.heap.size → ¬ (b = W.heap.size) := fun b cs t hb' ht' _ e => by
    subst e
    have := (Blk.same hb' hgb).2
    subst this
    revert ht'; unfold diskT; decide
  have hOO : ∀ b, b < w.heap.size → b ∉ Pl O W.heap.size → b ∉ Pl O2 W.heap.size := fun b hb' hn hp => by
    rcases mem_pl.1 hp with q | q
    · have := hO b q; omega
    · exact hn (mem_pl.2 (Or.inr q))
  rcases hop.first with ⟨e, _⟩ | ⟨_, hA⟩
  · cases e
  · subst hA
    refine ⟨O2, M, Nat.le_refl _, fun b hb' => by have := hO b hb'; omega, by omega, by omega, ?_, ⟨hr.dsk, hr.str, ⟨ss, gs, dn, hdn, ?_, hdk.chg hc3 hX hOO, hgo.chg hc3 hX hOO⟩, ?_, ?_, ?_⟩, ?_, ?_, hop.tno, hop.hno⟩
    · exact Below.on (hbe.trans (hww2.mono hWw)) (by have := hww2.size; omega) hcs (fun b hb' => by omega)
    · exact (hgb.below hww2 hsz).set 2 (.pointer (some ⟨pb2, 0, none⟩))
    · intro h
      rcases mem_pl.1 h with q | q
      · have := hO _ q; omega
      · omega
    · intro h
      rcases mem_pl.1 h with q | q
      · have := hlt _ q; omega
      · omega
    · exact hpk.chg hcs (by omega)
    · exact (hop.vol.new hb12).chg hcs (fun b hb' e => by have := hO b hb'; omega)
    · exact (hop.top.chg (X := fun _ => False) (Chg.of_new hb12) id id).chg hcs (by omega) (by omega)
theorem old_state (D S tb x : Nat) (h4 : 4 ≤ D) (h8 : D ≤ 8) (hx : x < D) : (oldA D S tb x D []).state = 2 := by
  have F := fct D x (D - 1) h4 h8 hx (by omega)
  have hcD : cntB D x D = 3 := by have := F.end' (by omega); rwa [show D - 1 + 1 = D by omega] at this
  unfold oldA
  rw [hcD]
  rfl

end Go.Proofs.YtdcinlkkjbclmabGreat
