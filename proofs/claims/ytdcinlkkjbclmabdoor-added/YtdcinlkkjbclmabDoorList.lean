/- Lists of columns as the callers make them: one row of slices, each of sixteen bytes; and the contracts of platterkeep's copied and stripe. -/
import Derived.Test.YtdcinlkkjbclmabDoorBuf
namespace Go.Proofs.YtdcinlkkjbclmabDoor
open Go.RowKit

def inner (G C : Nat → Nat) (i : Nat) : Value := .slice (some ⟨G i, 0, none⟩) 16 (C i)
def inners (G C : Nat → Nat) (k : Nat) : List Value := (List.range k).map (inner G C)
theorem inners_len (G C : Nat → Nat) (k : Nat) : (inners G C k).length = k := by simp [inners]
theorem inners_at (G C : Nat → Nat) (k i : Nat) (h : i < k) : (inners G C k)[i]? = some (inner G C i) := by simp [inners, h]
theorem inners_succ (G C : Nat → Nat) (k : Nat) : inners G C (k + 1) = inners G C k ++ [inner G C k] := by simp [inners, List.range_succ]
theorem inners_congr {G C G' C' : Nat → Nat} {k : Nat} (h : ∀ i, i < k → G i = G' i ∧ C i = C' i) : inners G C k = inners G' C' k := by
  unfold inners
  apply List.map_congr_left
  intro i hi
  rw [List.mem_range] at hi
  unfold inner
  rw [(h i hi).1, (h i hi).2]

/-- a row of k slices of sixteen bytes: slice i lies in block G i, holds L i -/
structure ListR (w : World) (base : Nat) (v : Value) (k : Nat) (G C : Nat → Nat) (L : Nat → List Nat) : Prop where
  own : w.ownsRow base 25 1 v k (inners G C k)
  buf : ∀ i, i < k → Buf w (G i) (L i)
  col : ∀ i, i < k → IsCol (L i)
  ne : ∀ i, i < k → v.ownBlock ≠ some (G i)

theorem ListR.below {w w' : World} {base : Nat} {v : Value} {k : Nat} {G C : Nat → Nat} {L : Nat → List Nat} (h : ListR w base v k G C L) (hb : Below w.heap.size w w') : ListR w' base v k G C L :=
  ⟨ownsRow_keep h.own hb, fun i hi => (h.buf i hi).below hb ((h.buf i hi).lt (by rw [(h.col i hi).len]; omega)), h.col, h.ne⟩

theorem ListR.nil (w : World) (base : Nat) (G C : Nat → Nat) (L : Nat → List Nat) : ListR w base (.slice none 0 0) 0 G C L :=
  ⟨World.ownsRow_nil _ _ _ _, fun i hi => by omega, fun i hi => by omega, fun i hi => by omega⟩

def put (G : Nat → Nat) (k g : Nat) (i : Nat) : Nat := if i < k then G i else g
def putL (L : Nat → List Nat) (k : Nat) (xs : List Nat) (i : Nat) : List Nat := if i < k then L i else xs
theorem put_lt (G : Nat → Nat) (k g i : Nat) (h : i < k) : put G k g i = G i := by simp [put, h]
theorem put_at (G : Nat → Nat) (k g : Nat) : put G k g k = g := by simp [put]
theorem putL_lt (L : Nat → List Nat) (k : Nat) (xs : List Nat) (i : Nat) (h : i < k) : putL L k xs i = L i := by simp [putL, h]
theorem putL_at (L : Nat → List Nat) (k : Nat) (xs : List Nat) : putL L k xs k = xs := by simp [putL]

theorem buf_grown {w w' : World} {g : Nat} {xs : List Nat} {row : Option Nat} (h : Buf w g xs) (hx : 0 < xs.length) (hg : w.grownBy w' row) (hne : row ≠ some g) : Buf w' g xs := by
  have hlt := h.lt hx
  have hc : ∀ j, w'.cell? ⟨g, j, none⟩ = w.cell? ⟨g, j, none⟩ := fun j => World.cell?_of_block (hg.block g hlt (fun e => hne e.symm))
  have hf : ∀ j, w'.frozen? ⟨g, j, none⟩ = w.frozen? ⟨g, j, none⟩ := fun j => World.frozen?_of_block (hg.block g hlt (fun e => hne e.symm))
  constructor
  · intro j v hv; rw [hc]; exact h.lies j v hv
  · intro j hj; rw [hc, hf]; exact h.free j hj

/-- behind the append of one slice more -/
theorem ListR.push {w w1 : World} {base : Nat} {v : Value} {k : Nat} {G C : Nat → Nat} {L : Nat → List Nat} (h : ListR w base v k G C L) (g c : Nat) {xs : List Nat} (hb : Buf w g xs) (hx : IsCol xs)
    (hne : v.ownBlock ≠ some g) (G' cap H : Nat) (hH : w.heap.size ≤ H) (hown : w1.ownsRow base 25 1 (.slice (some ⟨G', 0, none⟩) (k + 1) cap) (k + 1) (inners G C k ++ [.slice (some ⟨g, 0, none⟩) 16 c])) (hgrow : w.grownBy w1 v.ownBlock)
    (hat : v.ownBlock = some G' ∨ G' = H) : ListR w1 base (.slice (some ⟨G', 0, none⟩) (k + 1) cap) (k + 1) (put G k g) (put C k c) (putL L k xs) := by
  have h16 : ∀ i, i < k → 0 < (L i).length := fun i hi => by rw [(h.col i hi).len]; omega
  have hxl : 0 < xs.length := by rw [hx.len]; omega
  have hob : (Value.slice (some ⟨G', 0, none⟩) (k + 1) cap).ownBlock = some G' := rfl
  refine ⟨?_, fun i hi => ?_, fun i hi => ?_, fun i hi => ?_⟩
  · rw [inners_succ, inner, put_at, put_at, inners_congr (G' := G) (C' := C) (fun i hi => ⟨put_lt _ _ _ _ hi, put_lt _ _ _ _ hi⟩)]
    exact hown
  · rcases Nat.lt_or_ge i k with h1 | h1
    · rw [put_lt _ _ _ _ h1, putL_lt _ _ _ _ h1]
      exact buf_grown (h.buf i h1) (h16 i h1) hgrow (h.ne i h1)
    · obtain rfl : i = k := by omega
      rw [put_at, putL_at]
      exact buf_grown hb hxl hgrow hne
  · rcases Nat.lt_or_ge i k with h1 | h1
    · rw [putL_lt _ _ _ _ h1]; exact h.col i h1
    · obtain rfl : i = k := by omega
      rw [putL_at]; exact hx
  · rw [hob]
    rcases Nat.lt_or_ge i k with h1 | h1
    · rw [put_lt _ _ _ _ h1]
      rcases hat with h2 | h2
      · rw [← h2]; exact h.ne i h1
      · have := (h.buf i h1).lt (h16 i h1)
        simp only [ne_eq, Option.some.injEq]; omega
    · obtain rfl : i = k := by omega
      rw [put_at]
      rcases hat with h2 | h2
      · rw [← h2]; exact hne
      · have := hb.lt hxl
        simp only [ne_eq, Option.some.injEq]; omega

/-- such a row read as a list of columns -/
theorem ListR.slL {w : World} {base : Nat} {v : Value} {k : Nat} {G C : Nat → Nat} {L : Nat → List Nat} (h : ListR w base v k G C L) (hk : 0 < k) : SlL w v ((List.range k).map L) := by
  obtain ⟨g, cap, rfl, _, _⟩ := h.own.form hk
  refine ⟨some ⟨g, 0, none⟩, cap, by simp, .inr ⟨g, 0, rfl, fun i hi => ?_⟩⟩
  have hi' : i < k := by simpa using hi
  refine ⟨inner G C i, ?_, ?_⟩
  · rw [Nat.zero_add, h.own.cellAt i (by omega), inners_at _ _ _ _ hi']
  · have e : ((List.range k).map L).getD i [] = L i := by simp [hi']
    rw [e]
    have := (h.buf i hi').slb (cap := C i)
    rw [(h.col i hi').len] at this
    exact this
theorem cols_range {k : Nat} {L : Nat → List Nat} (h : ∀ i, i < k → IsCol (L i)) : AreCols ((List.range k).map L) := by
  refine ⟨fun i hi => ?_⟩
  have hi' : i < k := by simpa using hi
  have e : ((List.range k).map L).getD i [] = L i := by simp [hi']
  rw [e]; exact h i hi'

theorem Tryd.infoL : (Tryd.prog.info? 25).map (fun i => (i.zero, i.size, i.bytes)) = some (some (.slice none 0 0), 1, 24) := by kernel_rfl

theorem bytes_one (xs : List Nat) : ∀ u ∈ xs.map B, u.oneCell' = true := by intro u hu; simp only [List.mem_map] at hu; obtain ⟨x, _, rfl⟩ := hu; rfl

/-! ### copied -/
set_option maxHeartbeats 1000000 in
theorem copied_any (v : Value) (Ls : List (List Nat)) (w : World) (hv : SlL w v Ls) (hc : AreCols Ls) (h0 : 0 < Ls.length) (h8 : Ls.length ≤ 8) :
    Calls Tryd.prog 8 #[v] w fun e w' => ∃ v' G C, e = .returned v' ∧ ListR w' w.heap.size v' Ls.length G C (fun i => Ls.getD i []) ∧ (∀ i, i < Ls.length → w.heap.size ≤ G i) ∧ (∀ i j, i < Ls.length → j < Ls.length → i ≠ j → G i ≠ G j) ∧ Below w.heap.size w w' := by
  obtain ⟨i5, hi5, hz50, hz51, hz52⟩ := info_parts Tryd.info5
  obtain ⟨iL, hiL, hzL0, hzL1, hzL2⟩ := info_parts Tryd.infoL
  obtain ⟨a, cap, rfl, hd⟩ := hv
  rcases hd with hn | ⟨b, o, rfl, hd⟩
  · rw [hn] at h0; simp at h0
  have HD := hide hd
  have HC := hide hc
  clear hd hc
  go_enter Tryd.func8, Tryd.ntmps8
  go_wp2
  go_loopw [3, 4] (fun ov i wr => ∃ (k : Nat) (G C : Nat → Nat), k ≤ Ls.length ∧ i = .int .i64 k ∧ ListR wr w.heap.size ov k G C (fun i => Ls.getD i []) ∧ (∀ i, i < k → w.heap.size ≤ G i) ∧ (∀ i j, i < k → j < k → i ≠ j → G i ≠ G j) ∧ Below w.heap.size w wr) (fun _ i _ => Ls.length - (intOf i).toNat)
  case atStart => exact ⟨0, fun _ => 0, fun _ => 0, Nat.zero_le _, rfl, ListR.nil _ _ _ _ _, by intro i hi; omega, by intro i j hi; omega, Below.refl _ _⟩
  case round =>
    obtain ⟨k, G, C, hk, rfl, hlist, hge, hinj, hbel⟩ := hrel
    have HLI := hide hlist
    have HGE := hide hge
    have HIN := hide hinj
    clear hge hinj
    by_cases hlt : k < Ls.length
    · obtain ⟨u, hu, hsb⟩ := (unhide HD) k hlt
      have hxc := (unhide HC).col k hlt
      obtain ⟨a1, cap1, rfl, hx⟩ := hsb.below hbel
      have hcell : wr.cell? ⟨b, o + k, none⟩ = some (.slice a1 (Ls.getD k []).length cap1) := by
        rw [hbel.cell (block_lt_of_cell hu)]; exact hu
      rcases hx with h1 | ⟨b1, o1, rfl, hr1⟩
      · rw [h1] at hxc; have := hxc.len; simp at this
      rw [hxc.len] at hcell
      have hi1 : (0 : Int) ≤ (k : Int) := by omega
      have hi2 : (k : Int) < (Ls.length : Int) := by omega
      have HXL : Hid (Ls.getD k [] = Ls.getD k []) := rfl
      obtain ⟨xs, hxs⟩ : ∃ xs, Ls.getD k [] = xs := ⟨_, rfl⟩
      rw [hxs] at hxc hr1
      have HXS := hide hxs
      clear hxs HXL hu hsb
      have hl16 : (xs.map B).length = 16 * 1 := by rw [List.length_map, hxc.len]
      have hn16 : ∀ j u, (xs.map B)[j]? = some u → wr.cell? ((⟨b1, o1, none⟩ : Addr).add j) = some u := fun j u hj => by rw [Addr.add_mid]; exact hr1 j u hj
      have H1 := hide hl16
      have H2 := hide hn16
      have H3 := hide (bytes_one xs)
      have HBW := hide hbel
      clear hl16 hn16 hr1 hbel hlist
      go_wp2_with (at_builtin; refine wpList_append_lies _ rfl (.tmp 12) (.tmp 16) 25 rfl wr.heap.size 5 i5 (.int .u8 0) 1 1 Tryd.underlying25 hi5 hz50 hz51 hz52 rfl (by decide) (.slice none 0 0) 0 [] rfl (World.ownsRow_nil _ _ _ _) ⟨b1, o1, none⟩ 16 cap1 (xs.map B) rfl (unhide H1) (unhide H2) (unhide H3) (by decide) (by decide) (by decide) (Nat.le_refl _) wr.heap.size rfl ?_)
      intro g cg w1 hown1 hgrow1 hat1 hlt1
      obtain rfl : g = wr.heap.size := by rcases hat1 with h | h; cases h; exact h
      have hb1 : Below wr.heap.size wr w1 := (Below.refl _ _).grown hgrow1 (Nat.le_refl _) (fun k hk => by cases hk)
      have hbuf1 : Buf w1 wr.heap.size xs := buf_own (by rw [hxc.len]; exact hown1)
      have hb1a := hb1.alloc hb1.size (.cells #[.slice (some ⟨wr.heap.size, 0, none⟩) 16 cg] 25)
      have hli := (unhide HLI).below hb1a
      have hbu := hbuf1.below ((Below.refl _ _).alloc (Nat.le_refl _) (.cells #[.slice (some ⟨wr.heap.size, 0, none⟩) 16 cg] 25)) hlt1
      have hob : u3.ownBlock ≠ some wr.heap.size := fun e => by have := ((unhide HLI).own.lt _ e).2; omega
      have hwb := (unhide HBW).trans (hb1a.mono (unhide HBW).size)
      have hsz1 := hb1.size
      have hsz2 := (unhide HBW).size
      have HLI2 := hide hli
      have HBU := hide hbu
      have HWB := hide hwb
      have HOB := hide hob
      have H5 := hide (cell_one_new w1 (.slice (some ⟨wr.heap.size, 0, none⟩) 16 cg) 25)
      clear hown1 hgrow1 hat1 hb1 hbuf1 hb1a hli hbu hob hwb H1 H2 H3
      go_wp2_with (at_builtin; refine wpList_append_lies _ rfl (.tmp 18) (.tmp 20) 23 rfl w.heap.size 25 iL (.slice none 0 0) 1 24 Tryd.underlying23 hiL hzL0 hzL1 hzL2 rfl (by decide) u3 k (inners G C k) rfl (unhide HLI2).own ⟨w1.heap.size, 0, none⟩ 1 1 [.slice (some ⟨wr.heap.size, 0, none⟩) 16 cg] rfl rfl (unhide H5) (by intro u hu; simp only [List.mem_singleton] at hu; subst hu; rfl) (by decide) (by unfold maxLen; omega) (by omega) (by simp; omega) (w1.heap.size + 1) (by simp) ?_)
      intro g2 c2 w2 hown2 hgrow2 hat2 hlt2
      have hp := (unhide HLI2).push wr.heap.size cg (unhide HBU) hxc (unhide HOB) g2 c2 (w1.heap.size + 1) (by simp) hown2 hgrow2 hat2
      have hp' : ListR w2 w.heap.size (.slice (some ⟨g2, 0, none⟩) (k + 1) c2) (k + 1) (put G k wr.heap.size) (put C k cg) (fun i => Ls.getD i []) := by
        refine ⟨hp.own, fun i hi => ?_, fun i hi => (unhide HC).col i (by omega), hp.ne⟩
        have := hp.buf i hi
        rcases Nat.lt_or_ge i k with h | h
        · rw [putL_lt _ _ _ _ h] at this; exact this
        · obtain rfl : i = k := by omega
          rw [putL_at, ← unhide HXS] at this; exact this
      have HP := hide hp'
      have HB2 : Hid (Below w.heap.size w w2) := (unhide HWB).grown hgrow2 (by simp; omega) (fun k hk => ((unhide HLI2).own.lt k hk).1)
      clear hp hp' hown2 hgrow2 hat2 H5 HLI2 HBU HWB HOB
      go_wp2
      go_roundw
      case rel =>
        refine ⟨k + 1, put G k wr.heap.size, put C k cg, by omega, by go_num, unhide HP, fun i hi => ?_, fun i j hi hj hij => ?_, unhide HB2⟩
        · rcases Nat.lt_or_ge i k with h | h
          · rw [put_lt _ _ _ _ h]; exact unhide HGE i h
          · obtain rfl : i = k := by omega
            rw [put_at]; exact hsz2
        · have hg : ∀ i, i < k → G i < wr.heap.size := fun i hi => ((unhide HLI).buf i hi).lt (by rw [((unhide HC).col i (by omega)).len]; omega)
          rcases Nat.lt_or_ge i k with h | h
          · rcases Nat.lt_or_ge j k with h' | h'
            · rw [put_lt _ _ _ _ h, put_lt _ _ _ _ h']; exact unhide HIN i j h h' hij
            · obtain rfl : j = k := by omega
              rw [put_lt _ _ _ _ h, put_at]; have := hg i h; omega
          · obtain rfl : i = k := by omega
            rw [put_at, put_lt _ _ _ _ (by omega)]; have := hg j (by omega); omega
      case measure => simp [intOf]; omega
    · obtain rfl : k = Ls.length := by omega
      have HBW := hide hbel
      clear hlist hbel
      go_wp2
      go_ret
      exact ⟨u3, G, C, rfl, unhide HLI, unhide HGE, unhide HIN, unhide HBW⟩

end Go.Proofs.YtdcinlkkjbclmabDoor
