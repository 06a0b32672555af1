/- Rows of columns as the statements make them: kept, written, read; strings of columns. -/
import Derived.Test.YtdcinlkkjbclmabDoorMath
namespace Go.Proofs.YtdcinlkkjbclmabDoor
open Go.RowKit

theorem ListR.keep {w w' : World} {base n : Nat} {v : Value} {k : Nat} {G C : Nat → Nat} {L : Nat → List Nat} (h : ListR w base v k G C L) (hb : Below n w w') (hv : ∀ g, v.ownBlock = some g → g < n) (hG : ∀ i, i < k → G i < n) : ListR w' base v k G C L := by
  refine ⟨?_, fun i hi => (h.buf i hi).below hb (hG i hi), h.col, h.ne⟩
  obtain ⟨h1, h2⟩ := h.own
  refine ⟨h1, ?_⟩
  rcases h2 with h2 | ⟨g, cap, cur, e, hg, hh, r⟩
  · exact Or.inl h2
  · exact Or.inr ⟨g, cap, cur, e, hg, by rw [hb.block g (hv g (by rw [e]; rfl))]; exact hh, r⟩

theorem ownsRow_other {w : World} {base : Nat} {e : TypeId} {size : Nat} {v : Value} {n : Nat} {xs : List Value} (h : w.ownsRow base e size v n xs) (a : Addr) (u : Value) (hne : v.ownBlock ≠ some a.block) : (w.setCell a u).ownsRow base e size v n xs := by
  obtain ⟨h1, h2⟩ := h
  refine ⟨h1, ?_⟩
  rcases h2 with h2 | ⟨g, cap, cur, e, hg, hh, r⟩
  · exact Or.inl h2
  · refine Or.inr ⟨g, cap, cur, e, hg, ?_, r⟩
    rw [heap_setCell_other w a g u (fun q => hne (by rw [e, ← q]; rfl))]
    exact hh
theorem ListR.other {w : World} {base : Nat} {v : Value} {k : Nat} {G C : Nat → Nat} {L : Nat → List Nat} (h : ListR w base v k G C L) (a : Addr) (u : Value) (hv : v.ownBlock ≠ some a.block) (hG : ∀ i, i < k → G i ≠ a.block) : ListR (w.setCell a u) base v k G C L :=
  ⟨ownsRow_other h.own a u hv, fun i hi => (h.buf i hi).other a u (hG i hi), h.col, h.ne⟩
theorem ListR.congr {w : World} {base : Nat} {v : Value} {k : Nat} {G C : Nat → Nat} {L L' : Nat → List Nat} (h : ListR w base v k G C L) (he : ∀ i, i < k → L i = L' i) : ListR w base v k G C L' :=
  ⟨h.own, fun i hi => by rw [← he i hi]; exact h.buf i hi, fun i hi => by rw [← he i hi]; exact h.col i hi, h.ne⟩
/-- a byte of slice i written -/
theorem ListR.write {w : World} {base : Nat} {v : Value} {k : Nat} {G C : Nat → Nat} {L L' : Nat → List Nat} (h : ListR w base v k G C L) (hinj : ∀ i j, i < k → j < k → i ≠ j → G i ≠ G j) (i j x : Nat) (hi : i < k) (hj : j < 16) (hx : x < 256)
    (he : ∀ m, m < k → L' m = if m = i then (L i).set j x else L m) : ListR (w.setCell ⟨G i, j, none⟩ (.int .u8 (x : Int))) base v k G C L' := by
  refine ⟨ownsRow_other h.own _ _ (h.ne i hi), fun m hm => ?_, fun m hm => ?_, h.ne⟩
  · rw [he m hm]
    by_cases e : m = i
    · subst e
      rw [if_pos rfl]
      exact (h.buf m hi).set j x (by rw [(h.col m hi).len]; exact hj)
    · rw [if_neg e]
      exact (h.buf m hm).other _ _ (hinj m i hm hi e)
  · rw [he m hm]
    by_cases e : m = i
    · subst e
      rw [if_pos rfl]
      refine ⟨by rw [List.length_set]; exact (h.col m hi).len, fun y hy => ?_⟩
      rcases List.mem_or_eq_of_mem_set hy with h1 | h1
      · exact (h.col m hi).byte y h1
      · omega
    · rw [if_neg e]; exact h.col m hm

theorem ListR.cell {w : World} {base g cap : Nat} {k : Nat} {G C : Nat → Nat} {L : Nat → List Nat} (h : ListR w base (.slice (some ⟨g, 0, none⟩) k cap) k G C L) (i : Nat) (hi : i < k) : w.cell? ⟨g, i, none⟩ = some (.slice (some ⟨G i, 0, none⟩) 16 (C i)) := by
  rw [h.own.cellAt i (by omega), inners_at _ _ _ _ hi]; rfl

theorem strL_col (disks : Int) (ms : List Int) (i : Nat) : IsCol (strL disks ms i) := by
  unfold strL
  split
  · exact rawCol_col _
  · split
    · exact parP_col (datL_cols disks ms) _ (by rw [datL_len]; omega)
    · exact parQ_col (datL_cols disks ms) _ (by rw [datL_len]; omega)
theorem ownBlock_slice (g n c : Nat) : (Value.slice (some ⟨g, 0, none⟩) n c).ownBlock = some g := rfl

theorem own_cap_le {w : World} {base : Nat} {e : TypeId} {size g n cap : Nat} {xs : List Value} (h : w.ownsRow base e size (.slice (some ⟨g, 0, none⟩) n cap) n xs) : n ≤ cap := by
  rcases h.2 with ⟨h', _⟩ | ⟨g', cap', cur, h', _, _, hnc, _⟩
  · simp at h'
  · simp only [Value.slice.injEq] at h'
    obtain ⟨_, _, rfl⟩ := h'
    exact hnc
theorem ListR.pre {w : World} {base g cap : Nat} {k : Nat} {G C : Nat → Nat} {L : Nat → List Nat} (h : ListR w base (.slice (some ⟨g, 0, none⟩) k cap) k G C L) (m : Nat) (hm : m ≤ k) : SlL w (.slice (some ⟨g, 0, none⟩) m cap) (colsOf L m) := by
  refine ⟨some ⟨g, 0, none⟩, cap, by rw [colsOf_len], .inr ⟨g, 0, rfl, fun i hi => ?_⟩⟩
  rw [colsOf_len] at hi
  refine ⟨inner G C i, ?_, ?_⟩
  · rw [Nat.zero_add, h.own.cellAt i (by omega), inners_at _ _ _ _ (by omega)]
  · rw [colsOf_at _ _ _ hi]
    have := (h.buf i (by omega)).slb (cap := C i)
    rw [(h.col i (by omega)).len] at this
    exact this

theorem str_eq {xs ys : List Nat} (hx : IsCol xs) (hy : IsCol ys) : ((strOf xs).toList == (strOf ys).toList) = decide (xs = ys) := by
  rw [Bool.eq_iff_iff]
  simp only [beq_iff_eq, decide_eq_true_eq]
  constructor
  · intro h
    apply strOf_inj hx hy
    unfold strOf at h ⊢
    rw [ByteArray.toList_mk, ByteArray.toList_mk] at h
    rw [h]
  · intro h; rw [h]
theorem conv_str {W : World} {g c : Nat} {xs : List Nat} (h : Buf W g xs) (hx : IsCol xs) : (convert 25 9 (.slice (some ⟨g, 0, none⟩) 16 c)).run Tryd.prog W = .ok (.string (strOf xs)) W := by
  have hl : (xs.map UInt8.ofNat).length = 16 := by rw [List.length_map, hx.len]
  have := run_convert_bytes_back (P := Tryd.prog) W 25 9 5 ⟨g, 0, none⟩ c (xs.map UInt8.ofNat) Tryd.underlying25 Tryd.underlying5 Tryd.underlying9 (fun j hj => by
    rw [Addr.add_mid, Nat.zero_add]
    have hj' : j < xs.length := by simpa using hj
    rw [h.cell j hj']
    have hb := hx.at j (by rw [hx.len] at hj'; exact hj')
    have e : xs.getD j 0 = xs[j] := by simp [hj']
    rw [e] at hb ⊢
    simp only [List.getElem_map, UInt8.toNat_ofNat']
    rw [Nat.mod_eq_of_lt (by simpa using hb)])
  rw [hl] at this
  exact this

end Go.Proofs.YtdcinlkkjbclmabDoor
