/- The book of lists that came out: what it holds, and how it grows. -/
import Derived.Test.YtdcinlkkjbclmaaGreatMLBaseLApp
namespace Go.Proofs.YtdcinlkkjbclmaaGreat
open Go.RowKit

structure Bk (w : World) (te tr : TypeId) (P : Int → List Value) (rv kv : Value) (us : List Value) (ks : List Int) : Prop where
  row : w.ownsRow 0 tr 1 rv us.length us
  key : w.ownsRow 0 3 1 kv us.length (ks.map (Value.int .i64))
  len : us.length = ks.length
  ent : ∀ (i : Nat) (u : Value) (k : Int), us[i]? = some u → ks[i]? = some k → ∃ len, PatA w te (P k) u len
theorem Bk.chg {X : Nat → Prop} {w w' : World} {te tr : TypeId} {P : Int → List Value} {rv kv : Value} {us : List Value} {ks : List Int} (h : Bk w te tr P rv kv us ks) (hc : Chg X w w') (h1 : ∀ g, rv.ownBlock = some g → ¬ X g) (h2 : ∀ g, kv.ownBlock = some g → ¬ X g) (h3 : ∀ u ∈ us, ∀ g, u.ownBlock = some g → ¬ X g) : Bk w' te tr P rv kv us ks :=
  ⟨own_chg h.row hc h1, own_chg h.key hc h2, h.len, fun i u k hu hk => by
    obtain ⟨len, hp⟩ := h.ent i u k hu hk
    exact ⟨len, hp.chg hc (h3 u (List.mem_of_getElem? hu))⟩⟩
theorem Bk.nil (w : World) (te tr : TypeId) (P : Int → List Value) : Bk w te tr P (.slice none 0 0) (.slice none 0 0) [] [] :=
  ⟨World.ownsRow_nil _ _ _ _, World.ownsRow_nil _ _ _ _, rfl, fun i u k hu _ => by simp at hu⟩
/-- the blocks of a book -/
def Bk.at (rv kv : Value) (us : List Value) (g : Nat) : Prop := rv.ownBlock = some g ∨ kv.ownBlock = some g ∨ ∃ u ∈ us, u.ownBlock = some g
theorem Bk.typ {w : World} {te tr : TypeId} {P : Int → List Value} {rv kv : Value} {us : List Value} {ks : List Int} (h : Bk w te tr P rv kv us ks) (u : Value) (hu : u ∈ us) (g : Nat) (hg : u.ownBlock = some g) : ∃ cs, Blk w g cs te := by
  obtain ⟨i, hi, e⟩ := List.getElem_of_mem hu
  have hi' : i < ks.length := by rw [← h.len]; exact hi
  obtain ⟨len, hp⟩ := h.ent i u ks[i] (by rw [List.getElem?_eq_getElem hi, e]) (List.getElem?_eq_getElem hi')
  exact pat_blk hp g hg
theorem Bk.add {w : World} {te tr : TypeId} {P : Int → List Value} {rv' kv' : Value} {us : List Value} {ks : List Int} {k : Int} {a b c d : Value} (hlen : us.length = ks.length) (hent : ∀ (i : Nat) (u : Value) (k : Int), us[i]? = some u → ks[i]? = some k → ∃ len, PatA w te (P k) u len) (hr : w.ownsRow 0 tr 1 rv' (us.length + 4) (us ++ [a, b, c, d])) (hk : w.ownsRow 0 3 1 kv' (us.length + 4) (ks.map (Value.int .i64) ++ [.int .i64 k, .int .i64 k, .int .i64 k, .int .i64 k]))
    (ha : ∃ n, PatA w te (P k) a n) (hb : ∃ n, PatA w te (P k) b n) (hc : ∃ n, PatA w te (P k) c n) (hd : ∃ n, PatA w te (P k) d n) : Bk w te tr P rv' kv' (us ++ [a, b, c, d]) (ks ++ [k, k, k, k]) := by
  refine ⟨by simpa using hr, by simpa using hk, by simp [hlen], fun i u q hu hq => ?_⟩
  rcases Nat.lt_or_ge i us.length with hi | hi
  · rw [List.getElem?_append_left hi] at hu
    rw [List.getElem?_append_left (by rw [← hlen]; exact hi)] at hq
    exact hent i u q hu hq
  · rw [List.getElem?_append_right hi] at hu
    rw [List.getElem?_append_right (by rw [← hlen]; exact hi), ← hlen] at hq
    generalize i - us.length = j at hu hq
    match j, hu, hq with
    | 0, hu, hq => simp at hu hq; subst hu; subst hq; exact ha
    | 1, hu, hq => simp at hu hq; subst hu; subst hq; exact hb
    | 2, hu, hq => simp at hu hq; subst hu; subst hq; exact hc
    | 3, hu, hq => simp at hu hq; subst hu; subst hq; exact hd
    | j + 4, hu, _ => simp at hu

def bytP (k : Int) : List Value := [.int .u8 (k % 256)]
theorem infoU : (Tryz.prog.info? 5).map (fun i => (i.zero, i.size, i.bytes)) = some (some (.int .u8 0), 1, 1) := by kernel_rfl
theorem infoSU : (Tryz.prog.info? 36).map (fun i => (i.zero, i.size, i.bytes)) = some (some (.slice none 0 0), 1, 24) := by kernel_rfl

/-- behind own: the world's block, the book, what has changed -/
structure OwnedB (w w' : World) (wb : Nat) (cs : Array Value) (bs kv : Value) (us : List Value) (ks : List Int) (n : Nat) (v bs' kv' a b c d : Value) : Prop where
  blk : Blk w' wb (((cs.setIfInBounds 26 (.int .i64 ((n : Int) + 1))).setIfInBounds 24 bs').setIfInBounds 25 kv') 56
  bk : Bk w' 5 36 bytP bs' kv' (us ++ [a, b, c, d]) (ks ++ [(n : Int) + 1, (n : Int) + 1, (n : Int) + 1, (n : Int) + 1])
  chg : Chg (fun x => x = wb ∨ v.ownBlock = some x ∨ bs.ownBlock = some x ∨ kv.ownBlock = some x) w w'
  bsn : ∀ g, bs'.ownBlock = some g → bs.ownBlock = some g ∨ w.heap.size ≤ g
  kvn : ∀ g, kv'.ownBlock = some g → kv.ownBlock = some g ∨ w.heap.size ≤ g
  usn : ∀ u ∈ [a, b, c, d], ∀ g, u.ownBlock = some g → v.ownBlock = some g ∨ w.heap.size ≤ g

theorem ne_of_type {w : World} {b b' : Nat} {cs cs' : Array Value} {t t' : TypeId} (h : Blk w b cs t) (h' : Blk w b' cs' t') (ht : t ≠ t') : b ≠ b' := fun e => by
  subst e
  exact ht (Blk.same h h').2

theorem ob_eq {g g' n c : Nat} (h : (Value.slice (some ⟨g, 0, none⟩) n c).ownBlock = some g') : g' = g := by
  simpa [Value.ownBlock, eq_comm] using h
theorem own_set {w : World} {t : TypeId} {g n cap k : Nat} {xs : List Value} (h : w.ownsRow 0 t 1 (.slice (some ⟨g, 0, none⟩) n cap) n xs) (hk : k < n) (u : Value) : (w.setCell ⟨g, k, none⟩ u).ownsRow 0 t 1 (.slice (some ⟨g, 0, none⟩) n cap) n (xs.set k u) := by
  rcases own_get h with ⟨hh, _⟩ | ⟨g1, cap1, cs, hh, hb, h1, h2, h3, h4, h5⟩
  · cases hh
  · simp only [Value.slice.injEq, Option.some.injEq, Addr.mk.injEq] at hh
    obtain ⟨⟨rfl, _⟩, _, rfl⟩ := hh
    refine own_mk (hb.set k u) h1 h2 (by rw [Array.size_setIfInBounds]; exact h3) (by rw [List.length_set]; exact h4) (fun j hj => ?_)
    rw [List.getElem?_set]
    by_cases e : k = j
    · subst e
      rw [if_pos rfl, if_pos (by omega), set_at (by omega)]
    · rw [if_neg e, set_ne e]
      exact h5 j hj
def fillB (xs : List Value) (k : Nat) (m : Value) : List Value := List.replicate k m ++ xs.drop k
theorem fillB_zero (xs : List Value) (m : Value) : fillB xs 0 m = xs := by simp [fillB]
theorem fillB_set (xs : List Value) (k : Nat) (m : Value) (hk : k < xs.length) : (fillB xs k m).set k m = fillB xs (k + 1) m := by
  unfold fillB
  rw [List.set_append_right _ _ (by simp), List.length_replicate, Nat.sub_self, List.drop_eq_getElem_cons hk, List.set_cons_zero, List.replicate_succ']
  simp
theorem fillB_all (xs : List Value) (m : Value) : fillB xs xs.length m = repP [m] xs.length := by
  unfold fillB repP
  rw [List.drop_length, List.append_nil]
  generalize xs.length = n
  induction n with
  | zero => rfl
  | succ n ih => rw [List.replicate_succ, List.replicate_succ, List.flatten_cons, ih]; rfl
/-- one append more of the same -/
theorem next_of {wr wi w' : World} {te : TypeId} {p : List Value} {v cur : Value} {n g cap : Nat} {o : Obj} (hC : Chg (fun x => v.ownBlock = some x) wr wi) (hN : ∀ g, cur.ownBlock = some g → v.ownBlock = some g ∨ wr.heap.size ≤ g) (hG : Grew (wi.alloc o) w' te p.length cur n 1 g cap (repP p n ++ p)) :
    w'.ownsRow 0 te p.length (.slice (some ⟨g, 0, none⟩) (n + 1) cap) (n + 1) (repP p (n + 1)) ∧ Chg (fun x => v.ownBlock = some x) wr w' ∧ (∀ g', (Value.slice (some ⟨g, 0, none⟩) (n + 1) cap).ownBlock = some g' → v.ownBlock = some g' ∨ wr.heap.size ≤ g') ∧ (∀ u len, PatA wi te p u len → len ≤ n → PatA w' te p u len) := by
  have hs := hC.size
  refine ⟨by rw [rep_succ]; exact hG.own, (hC.alloc o).trans hG.chg (fun k hk => hN k hk), fun g' hg' => ?_, fun u len hu hle => ?_⟩
  · obtain rfl : g = g' := by simpa [Value.ownBlock] using hg'
    rcases hG.at' with h | h
    · exact hN _ h
    · rw [World.size_alloc] at h
      exact Or.inr (by omega)
  · exact hG.keep p u len rfl (hu.chg (X := fun _ => False) ((Chg.refl _ _).alloc o) (fun _ _ => id)) hle

set_option maxRecDepth 100000 in
set_option maxHeartbeats 8000000 in
theorem own_any (wb : Nat) (cs : Array Value) (bs kv : Value) (us : List Value) (ks : List Int) (n : Nat) (av : Option Addr) (len cv : Nat) (xs : List Value) (w : World) (hW : Blk w wb cs 56) (hsz : cs.size = 31) (h24 : cs[24]? = some bs) (h25 : cs[25]? = some kv) (h26 : cs[26]? = some (.int .i64 (n : Int)))
    (hb : Bk w 5 36 bytP bs kv us ks) (hv : w.ownsRow 0 5 1 (.slice av len cv) len xs) (hx : len ≤ 8) (hfr : ∀ u ∈ us, ∀ g, u.ownBlock = some g → (Value.slice av len cv).ownBlock ≠ some g) (hn : n ≤ 1000) (hus : us.length ≤ 1000) :
    Calls Tryz.prog 85 #[.pointer (some ⟨wb, 24, none⟩), .slice av len cv] w fun e w' => e = .returned (.tuple #[]) ∧ ∃ bs' kv' a b c d, OwnedB w w' wb cs bs kv us ks n (.slice av len cv) bs' kv' a b c d := by
  have c26 := (hW.cell 26).trans h26
  have f26 := hW.free 26
  obtain ⟨m, hm⟩ : ∃ m : Int, ((n : Int) + 1) % 256 = m := ⟨_, rfl⟩
  have hvw : ∀ g, (Value.slice av len cv).ownBlock = some g → g ≠ wb := fun g hg => by
    obtain ⟨c, hc⟩ := own_blk hv g hg
    exact ne_of_type hc hW (by decide)
  have hW1 := hW.set 26 (.int .i64 ((n : Int) + 1))
  have hv1 : (w.setCell ⟨wb, 26, none⟩ (.int .i64 ((n : Int) + 1))).ownsRow 0 5 1 (.slice av len cv) len xs := own_chg hv (Chg.setCell (X := fun b => b = wb) (Chg.refl _ _) ⟨wb, 26, none⟩ _ (Or.inl rfl)) hvw
  have HW1 := hide hW1
  have HV1 := hide hv1
  have HB := hide hb
  have HFR := hide hfr
  have HVW := hide hvw
  have HW := hide hW
  have HM := hide hm
  have HVT := hide (own_blk hv)
  clear hW1 hv1 hb hfr hvw hW hv
  have hm0 : 0 ≤ m := by rw [← hm]; omega
  have hm1 : m < 256 := by rw [← hm]; omega
  clear hm
  go_enter Tryz.func85, Tryz.ntmps85
  go_wp2
  rw [unhide HM]
  clear c26 f26
  obtain ⟨w1, hw1⟩ : ∃ w1, w.setCell ⟨wb, 26, none⟩ (.int .i64 ((n : Int) + 1)) = w1 := ⟨_, rfl⟩
  have hC0 : Chg (fun x => x = wb) w w1 := by rw [← hw1]; exact Chg.setCell (X := fun b => b = wb) (Chg.refl _ _) ⟨wb, 26, none⟩ _ (Or.inl rfl)
  rw [hw1] at HV1 HW1 ⊢
  have HC0 := hide hC0
  clear hw1 hC0
  have hxl : xs.length = len := by have := (unhide HV1).1; omega
  go_loopw [5] (fun iv wr => ∃ k : Nat, k ≤ len ∧ iv = .int .i64 (k : Int) ∧ wr.ownsRow 0 5 1 (.slice av len cv) len (fillB xs k (.int .u8 m)) ∧ Chg (fun x => (Value.slice av len cv).ownBlock = some x) w1 wr) (fun i _ => len - (intOf i).toNat)
  case atStart => exact ⟨0, Nat.zero_le _, rfl, by rw [fillB_zero]; exact unhide HV1, Chg.refl _ _⟩
  case round =>
    clear HV1
    obtain ⟨k, hk, rfl, hown, hch⟩ := hrel
    rcases Nat.lt_or_ge k len with hlt | hge
    · obtain ⟨g, cap, hge, hg1, hg2⟩ := hown.form (by omega)
      simp only [Value.slice.injEq] at hge
      obtain ⟨rfl, _, rfl⟩ := hge
      have hi1 : (0 : Int) ≤ (k : Int) := by omega
      have hi2 : (k : Int) < (len : Int) := by omega
      have hfl : (fillB xs k (.int .u8 m)).length = len := by simp [fillB]; omega
      have c1 := World.ownsRow.cellAt hown k (by omega)
      rw [List.getElem?_eq_getElem (by omega)] at c1
      have c2 := World.ownsRow.frozenAt hown k
      have NO := hide (own_set hown hlt (.int .u8 m))
      rw [fillB_set xs k _ (by omega)] at NO
      have NN := hide (Chg.setCell (X := fun x => (Value.slice (some ⟨g, 0, none⟩) len cv).ownBlock = some x) hch ⟨g, k, none⟩ (.int .u8 m) (Or.inl rfl))
      generalize (fillB xs k (.int .u8 m))[k] = z at *
      clear hown hch
      go_wp2
      go_roundw
      case rel => exact ⟨k + 1, by omega, by go_num, unhide NO, unhide NN⟩
      case measure => simp [intOf]; omega
    · have hkl : k = len := by omega
      subst hkl
      have hfa : fillB xs k (.int .u8 m) = repP [.int .u8 m] k := by
        have := fillB_all xs (.int .u8 m)
        rw [hxl] at this
        exact this
      rw [hfa] at hown
      have HC1 := hide hch
      have P0 := hide (pat_own (p := [.int .u8 m]) hown)
      have hal := (Below.refl wr.heap.size wr).alloc (Nat.le_refl _) (.cells #[.int .u8 m] 5)
      obtain ⟨X0, hX0⟩ : ∃ X0, repP [.int .u8 m] k = X0 := ⟨_, rfl⟩
      rw [hX0] at hown
      have HX0 := hide hX0
      have O0 := hide (own_chg hown (Chg.of_new (X := fun _ => False) hal) (fun _ _ => id))
      have N0 := hide (news_blk (Blk.new wr #[.int .u8 m] 5))
      clear hown hch hal hX0 hfa
      go_wp2_with (at_builtin; refine wpList_append_grew rfl (.tmp 31) (.tmp 33) 36 rfl 5 (.int .u8 0) 1 1 Tryz.underlying36 infoU rfl (by decide) (.slice av k cv) k X0 rfl (unhide O0) ⟨wr.heap.size, 0, none⟩ 1 1 [.int .u8 m] rfl rfl (unhide N0) (by intro u hu; simp only [List.mem_singleton] at hu; subst hu; rfl) (by decide) (by omega) (by decide) ?_)
      intro g1 c1 w2 hg1
      rw [← unhide HX0] at hg1
      obtain ⟨o1, C1, n1, k1⟩ := next_of (p := [.int .u8 m]) (Chg.refl (fun x => (Value.slice av k cv).ownBlock = some x) wr) (fun g hg => Or.inl hg) hg1
      have P0b := hide (k1 _ _ (unhide P0) (Nat.le_refl _))
      have P1 := hide (pat_own (p := [.int .u8 m]) o1)
      have hal := (Below.refl w2.heap.size w2).alloc (Nat.le_refl _) (.cells #[.int .u8 m] 5)
      obtain ⟨X1, hX1⟩ : ∃ X1, repP [.int .u8 m] (k + 1) = X1 := ⟨_, rfl⟩
      rw [hX1] at o1
      have HX1 := hide hX1
      have O1 := hide (own_chg o1 (Chg.of_new (X := fun _ => False) hal) (fun _ _ => id))
      have N1 := hide (news_blk (Blk.new w2 #[.int .u8 m] 5))
      have CC1 := hide C1
      have NN1 := hide n1
      clear o1 hal hX1 hg1 C1 n1 k1 O0 N0 P0 HX0
      go_wp2_with (at_builtin; refine wpList_append_grew rfl (.tmp 35) (.tmp 37) 36 rfl 5 (.int .u8 0) 1 1 Tryz.underlying36 infoU rfl (by decide) (.slice (some ⟨g1, 0, none⟩) (k + 1) c1) (k + 1) X1 rfl (unhide O1) ⟨w2.heap.size, 0, none⟩ 1 1 [.int .u8 m] rfl rfl (unhide N1) (by intro u hu; simp only [List.mem_singleton] at hu; subst hu; rfl) (by decide) (by omega) (by decide) ?_)
      intro g2 c2 w3 hg2
      rw [← unhide HX1] at hg2
      obtain ⟨o2, C2, n2, k2⟩ := next_of (p := [.int .u8 m]) (unhide CC1) (unhide NN1) hg2
      have P0c := hide (k2 _ _ (unhide P0b) (by omega))
      have P1b := hide (k2 _ _ (unhide P1) (Nat.le_refl _))
      have P2 := hide (pat_own (p := [.int .u8 m]) o2)
      have hal := (Below.refl w3.heap.size w3).alloc (Nat.le_refl _) (.cells #[.int .u8 m] 5)
      obtain ⟨X2, hX2⟩ : ∃ X2, repP [.int .u8 m] (k + 1 + 1) = X2 := ⟨_, rfl⟩
      rw [hX2] at o2
      have HX2 := hide hX2
      have O2 := hide (own_chg o2 (Chg.of_new (X := fun _ => False) hal) (fun _ _ => id))
      have N2 := hide (news_blk (Blk.new w3 #[.int .u8 m] 5))
      have CC2 := hide C2
      have NN2 := hide n2
      clear o2 hal hX2 hg2 C2 n2 k2 O1 N1 P0b P1 HX1 CC1
      go_wp2_with (at_builtin; refine wpList_append_grew rfl (.tmp 39) (.tmp 41) 36 rfl 5 (.int .u8 0) 1 1 Tryz.underlying36 infoU rfl (by decide) (.slice (some ⟨g2, 0, none⟩) (k + 1 + 1) c2) (k + 1 + 1) X2 rfl (unhide O2) ⟨w3.heap.size, 0, none⟩ 1 1 [.int .u8 m] rfl rfl (unhide N2) (by intro u hu; simp only [List.mem_singleton] at hu; subst hu; rfl) (by decide) (by omega) (by decide) ?_)
      intro g3 c3 w4 hg3
      rw [← unhide HX2] at hg3
      obtain ⟨o3, C3, n3, k3⟩ := next_of (p := [.int .u8 m]) (unhide CC2) (unhide NN2) hg3
      have P0d := hide (k3 _ _ (unhide P0c) (by omega))
      have P1c := hide (k3 _ _ (unhide P1b) (by omega))
      have P2b := hide (k3 _ _ (unhide P2) (Nat.le_refl _))
      have P3 := hide (pat_own (p := [.int .u8 m]) o3)
      have NN3 := hide n3
      have hs4 := C3.size
      have hs1 : w.heap.size ≤ wr.heap.size := Nat.le_trans (unhide HC0).size (unhide HC1).size
      -- from w on
      have C4 : Chg (fun x => x = wb ∨ (Value.slice av k cv).ownBlock = some x) w w4 := ((((unhide HC0).mono (fun k _ h => Or.inl h)).trans (unhide HC1) (fun k h => Or.inl (Or.inr h))).trans C3 (fun k h => Or.inl (Or.inr h)))
      have W4 : Blk w4 wb (cs.setIfInBounds 26 (.int .i64 ((n : Int) + 1))) 56 := ((unhide HW1).chg (unhide HC1) (fun h => unhide HVW wb h rfl)).chg C3 (fun h => unhide HVW wb h rfl)
      have T4 : ∀ g c t', Blk w g c t' → t' ≠ 56 → t' ≠ 5 → ¬ (g = wb ∨ (Value.slice av k cv).ownBlock = some g) := fun g c t' hb h1 h2 hX => by
        rcases hX with rfl | hX
        · exact h1 (Blk.same hb (unhide HW)).2
        · obtain ⟨c', hc'⟩ := unhide HVT g hX
          exact h2 (Blk.same hb hc').2
      have B4 : Bk w4 5 36 bytP bs kv us ks := (unhide HB).chg C4 (fun g hg => by
          obtain ⟨c, hc⟩ := own_blk (unhide HB).row g hg
          exact T4 g c _ hc (by decide) (by decide)) (fun g hg => by
          obtain ⟨c, hc⟩ := own_blk (unhide HB).key g hg
          exact T4 g c _ hc (by decide) (by decide)) (fun u hu g hg hX => by
          rcases hX with rfl | hX
          · obtain ⟨c, hc⟩ := (unhide HB).typ u hu g hg
            exact (by decide : 5 ≠ 56) (Blk.same hc (unhide HW)).2
          · exact unhide HFR u hu g hg hX)
      have c24 : w4.cell? ⟨wb, 24, none⟩ = some bs := by rw [W4.cell, set_ne (by decide)]; exact h24
      have hal4 := (Below.refl w4.heap.size w4).alloc (Nat.le_refl _) (.cells #[.slice av k cv, .slice (some ⟨g1, 0, none⟩) (k + 1) c1, .slice (some ⟨g2, 0, none⟩) (k + 1 + 1) c2, .slice (some ⟨g3, 0, none⟩) (k + 1 + 1 + 1) c3] 36)
      have O4 := hide (own_chg B4.row (Chg.of_new (X := fun _ => False) hal4) (fun _ _ => id))
      have N4 := hide (news_blk (Blk.new w4 #[.slice av k cv, .slice (some ⟨g1, 0, none⟩) (k + 1) c1, .slice (some ⟨g2, 0, none⟩) (k + 1 + 1) c2, .slice (some ⟨g3, 0, none⟩) (k + 1 + 1 + 1) c3] 36))
      have CC4 := hide C4
      have BB4 := hide B4
      have WW4 := hide W4
      have HWL : wb < w4.heap.size := W4.lt
      clear o3 n3 k3 hg3 O2 N2 HX2 P0c P1b P2 CC2 C3 C4 T4 B4 W4 hal4
      go_wp2_with (at_builtin; refine wpList_append_grew rfl (.tmp 47) (.tmp 52) 49 rfl 36 (.slice none 0 0) 1 24 Tryz.underlying49 infoSU rfl (by decide) bs us.length us rfl (unhide O4) ⟨w4.heap.size, 0, none⟩ 4 4 [.slice av k cv, .slice (some ⟨g1, 0, none⟩) (k + 1) c1, .slice (some ⟨g2, 0, none⟩) (k + 1 + 1) c2, .slice (some ⟨g3, 0, none⟩) (k + 1 + 1 + 1) c3] rfl rfl (unhide N4) (by intro u hu; simp only [List.mem_cons, List.not_mem_nil, or_false] at hu; rcases hu with rfl | rfl | rfl | rfl <;> rfl) (by decide) (by omega) (by decide) ?_)
      intro gb cb w5 hg5
      clear c24
      have C5 : Chg (fun x => bs.ownBlock = some x) w4 w5 := ((Chg.refl _ _).alloc _).trans hg5.chg (fun k h => Or.inl h)
      have hbsT := own_blk (unhide BB4).row
      have W5 := (unhide WW4).chg C5 (fun h => by
        obtain ⟨c, hc⟩ := hbsT wb h
        exact (by decide : 36 ≠ 56) (Blk.same hc (unhide WW4)).2)
      have c24 : w5.cell? ⟨wb, 24, none⟩ = some bs := by rw [W5.cell, set_ne (by decide)]; exact h24
      have f24 := W5.free 24
      have WW6 := hide (W5.set 24 (.slice (some ⟨gb, 0, none⟩) (us.length + 4) cb))
      have C6 : Chg (fun x => x = wb ∨ bs.ownBlock = some x) w4 (w5.setCell ⟨wb, 24, none⟩ (.slice (some ⟨gb, 0, none⟩) (us.length + 4) cb)) := (C5.mono (fun k _ h => Or.inr h)).setCell _ _ (Or.inl (Or.inl rfl))
      have hgbw : gb ≠ wb := by
        obtain ⟨c, hc⟩ := own_blk hg5.own gb rfl
        exact ne_of_type hc W5 (by decide)
      have R6 := hide (own_chg hg5.own (Chg.setCell (X := fun b => b = wb) (Chg.refl _ w5) ⟨wb, 24, none⟩ (.slice (some ⟨gb, 0, none⟩) (us.length + 4) cb) (Or.inl rfl)) (fun g hg e => hgbw (by rw [← ob_eq hg]; exact e)))
      have hgbn : bs.ownBlock = some gb ∨ w4.heap.size ≤ gb := by
        rcases hg5.at' with h | h
        · exact Or.inl h
        · rw [World.size_alloc] at h
          exact Or.inr (by omega)
      have HBST := hide hbsT
      have CC6 := hide C6
      have HGBN := hide hgbn
      have HGBW := hide hgbw
      clear hg5 C5 hbsT W5 C6 hgbn hgbw O4 N4
      go_wp2
      clear c24 f24
      obtain ⟨w6, hw6⟩ : ∃ w6, w5.setCell ⟨wb, 24, none⟩ (.slice (some ⟨gb, 0, none⟩) (us.length + 4) cb) = w6 := ⟨_, rfl⟩
      rw [hw6] at WW6 CC6 R6 ⊢
      clear hw6
      have d25 : w6.cell? ⟨wb, 25, none⟩ = some kv := by rw [(unhide WW6).cell, set_ne (by decide), set_ne (by decide)]; exact h25
      have d26 : w6.cell? ⟨wb, 26, none⟩ = some (.int .i64 ((n : Int) + 1)) := by rw [(unhide WW6).cell, set_ne (by decide), set_at (by rw [hsz]; decide)]
      have hS6 : (fun w' : World => w'.cell? ⟨wb, 25, none⟩ = some kv ∧ w'.cell? ⟨wb, 26, none⟩ = some (.int .i64 ((n : Int) + 1))) w6.drew := ⟨d25, d26⟩
      clear d25 d26
      refine wp_region_noPanic ?_
      refine orders_begin 25 (fun w' : World => w'.cell? ⟨wb, 25, none⟩ = some kv ∧ w'.cell? ⟨wb, 26, none⟩ = some (.int .i64 ((n : Int) + 1))) (by kernel_rfl) ?_
      refine orders_take 0 (some 56) (v := .pointer (some ⟨wb, 24, none⟩)) rfl (by kernel_rfl) (by kernel_rfl) (by kernel_rfl) (by kernel_rfl) (fun _ _ _ h => h) (Or.inl ⟨by rfl, fun _ _ => rfl⟩) hS6 rfl ?_
      simp only [Act.put, List.setIfInBounds_toArray, List.set_cons_zero, List.set_cons_succ]
      refine orders_take 1 (some 57) (v := .pointer (some ⟨wb, 24, none⟩)) rfl (by kernel_rfl) (by kernel_rfl) (by kernel_rfl) (by kernel_rfl) (fun _ _ _ h => h) (Or.inl ⟨by rfl, fun _ _ => rfl⟩) hS6 rfl ?_
      simp only [Act.put, List.setIfInBounds_toArray, List.set_cons_zero, List.set_cons_succ]
      refine orders_take 2 (some 58) (v := .pointer (some ⟨wb, 24, none⟩)) rfl (by kernel_rfl) (by kernel_rfl) (by kernel_rfl) (by kernel_rfl) (fun _ _ _ h => h) (Or.inl ⟨by rfl, fun _ _ => by go_simp⟩) hS6 rfl ?_
      simp only [Act.put, List.setIfInBounds_toArray, List.set_cons_zero, List.set_cons_succ]
      refine orders_take 3 (some 59) (v := .pointer (some ⟨wb, 25, none⟩)) rfl (by kernel_rfl) (by kernel_rfl) (by kernel_rfl) (by kernel_rfl) (fun _ _ _ h => h) (Or.inl ⟨by rfl, fun _ _ => by go_simp⟩) hS6 rfl ?_
      simp only [Act.put, List.setIfInBounds_toArray, List.set_cons_zero, List.set_cons_succ]
      refine orders_take 4 (some 60) (v := kv) rfl (by kernel_rfl) (by kernel_rfl) (by kernel_rfl) (by kernel_rfl) (fun _ _ _ h => h) (Or.inl ⟨by rfl, fun w' hw => by have h1 := hw.1; clear hw; go_simp⟩) hS6 rfl ?_
      simp only [Act.put, List.setIfInBounds_toArray, List.set_cons_zero, List.set_cons_succ]
      refine orders_take 5 (some 61) (v := .pointer (some ⟨wb, 24, none⟩)) rfl (by kernel_rfl) (by kernel_rfl) (by kernel_rfl) (by kernel_rfl) (fun _ _ _ h => h) (Or.inl ⟨by rfl, fun _ _ => rfl⟩) hS6 rfl ?_
      simp only [Act.put, List.setIfInBounds_toArray, List.set_cons_zero, List.set_cons_succ]
      refine orders_take 6 (some 62) (v := .pointer (some ⟨wb, 24, none⟩)) rfl (by kernel_rfl) (by kernel_rfl) (by kernel_rfl) (by kernel_rfl) (fun _ _ _ h => h) (Or.inl ⟨by rfl, fun _ _ => by go_simp⟩) hS6 rfl ?_
      simp only [Act.put, List.setIfInBounds_toArray, List.set_cons_zero, List.set_cons_succ]
      refine orders_take 7 (some 63) (v := .pointer (some ⟨wb, 26, none⟩)) rfl (by kernel_rfl) (by kernel_rfl) (by kernel_rfl) (by kernel_rfl) (fun _ _ _ h => h) (Or.inl ⟨by rfl, fun _ _ => by go_simp⟩) hS6 rfl ?_
      simp only [Act.put, List.setIfInBounds_toArray, List.set_cons_zero, List.set_cons_succ]
      refine orders_take 8 (some 64) (v := .int .i64 ((n : Int) + 1)) rfl (by kernel_rfl) (by kernel_rfl) (by kernel_rfl) (by kernel_rfl) (fun _ _ _ h => h) (Or.inl ⟨by rfl, fun w' hw => by have h1 := hw.2; clear hw; go_simp⟩) hS6 rfl ?_
      simp only [Act.put, List.setIfInBounds_toArray, List.set_cons_zero, List.set_cons_succ]
      refine orders_take 9 (some 65) (v := .pointer (some ⟨wb, 24, none⟩)) rfl (by kernel_rfl) (by kernel_rfl) (by kernel_rfl) (by kernel_rfl) (fun _ _ _ h => h) (Or.inl ⟨by rfl, fun _ _ => rfl⟩) hS6 rfl ?_
      simp only [Act.put, List.setIfInBounds_toArray, List.set_cons_zero, List.set_cons_succ]
      refine orders_take 10 (some 66) (v := .pointer (some ⟨wb, 24, none⟩)) rfl (by kernel_rfl) (by kernel_rfl) (by kernel_rfl) (by kernel_rfl) (fun _ _ _ h => h) (Or.inl ⟨by rfl, fun _ _ => by go_simp⟩) hS6 rfl ?_
      simp only [Act.put, List.setIfInBounds_toArray, List.set_cons_zero, List.set_cons_succ]
      refine orders_take 11 (some 67) (v := .pointer (some ⟨wb, 26, none⟩)) rfl (by kernel_rfl) (by kernel_rfl) (by kernel_rfl) (by kernel_rfl) (fun _ _ _ h => h) (Or.inl ⟨by rfl, fun _ _ => by go_simp⟩) hS6 rfl ?_
      simp only [Act.put, List.setIfInBounds_toArray, List.set_cons_zero, List.set_cons_succ]
      refine orders_take 12 (some 68) (v := .int .i64 ((n : Int) + 1)) rfl (by kernel_rfl) (by kernel_rfl) (by kernel_rfl) (by kernel_rfl) (fun _ _ _ h => h) (Or.inl ⟨by rfl, fun w' hw => by have h1 := hw.2; clear hw; go_simp⟩) hS6 rfl ?_
      simp only [Act.put, List.setIfInBounds_toArray, List.set_cons_zero, List.set_cons_succ]
      refine orders_take 13 (some 69) (v := .pointer (some ⟨wb, 24, none⟩)) rfl (by kernel_rfl) (by kernel_rfl) (by kernel_rfl) (by kernel_rfl) (fun _ _ _ h => h) (Or.inl ⟨by rfl, fun _ _ => rfl⟩) hS6 rfl ?_
      simp only [Act.put, List.setIfInBounds_toArray, List.set_cons_zero, List.set_cons_succ]
      refine orders_take 14 (some 70) (v := .pointer (some ⟨wb, 24, none⟩)) rfl (by kernel_rfl) (by kernel_rfl) (by kernel_rfl) (by kernel_rfl) (fun _ _ _ h => h) (Or.inl ⟨by rfl, fun _ _ => by go_simp⟩) hS6 rfl ?_
      simp only [Act.put, List.setIfInBounds_toArray, List.set_cons_zero, List.set_cons_succ]
      refine orders_take 15 (some 71) (v := .pointer (some ⟨wb, 26, none⟩)) rfl (by kernel_rfl) (by kernel_rfl) (by kernel_rfl) (by kernel_rfl) (fun _ _ _ h => h) (Or.inl ⟨by rfl, fun _ _ => by go_simp⟩) hS6 rfl ?_
      simp only [Act.put, List.setIfInBounds_toArray, List.set_cons_zero, List.set_cons_succ]
      refine orders_take 16 (some 72) (v := .int .i64 ((n : Int) + 1)) rfl (by kernel_rfl) (by kernel_rfl) (by kernel_rfl) (by kernel_rfl) (fun _ _ _ h => h) (Or.inl ⟨by rfl, fun w' hw => by have h1 := hw.2; clear hw; go_simp⟩) hS6 rfl ?_
      simp only [Act.put, List.setIfInBounds_toArray, List.set_cons_zero, List.set_cons_succ]
      refine orders_take 17 (some 73) (v := .pointer (some ⟨wb, 24, none⟩)) rfl (by kernel_rfl) (by kernel_rfl) (by kernel_rfl) (by kernel_rfl) (fun _ _ _ h => h) (Or.inl ⟨by rfl, fun _ _ => rfl⟩) hS6 rfl ?_
      simp only [Act.put, List.setIfInBounds_toArray, List.set_cons_zero, List.set_cons_succ]
      refine orders_take 18 (some 74) (v := .pointer (some ⟨wb, 24, none⟩)) rfl (by kernel_rfl) (by kernel_rfl) (by kernel_rfl) (by kernel_rfl) (fun _ _ _ h => h) (Or.inl ⟨by rfl, fun _ _ => by go_simp⟩) hS6 rfl ?_
      simp only [Act.put, List.setIfInBounds_toArray, List.set_cons_zero, List.set_cons_succ]
      refine orders_take 19 (some 75) (v := .pointer (some ⟨wb, 26, none⟩)) rfl (by kernel_rfl) (by kernel_rfl) (by kernel_rfl) (by kernel_rfl) (fun _ _ _ h => h) (Or.inl ⟨by rfl, fun _ _ => by go_simp⟩) hS6 rfl ?_
      simp only [Act.put, List.setIfInBounds_toArray, List.set_cons_zero, List.set_cons_succ]
      refine orders_take 20 (some 76) (v := .int .i64 ((n : Int) + 1)) rfl (by kernel_rfl) (by kernel_rfl) (by kernel_rfl) (by kernel_rfl) (fun _ _ _ h => h) (Or.inl ⟨by rfl, fun w' hw => by have h1 := hw.2; clear hw; go_simp⟩) hS6 rfl ?_
      simp only [Act.put, List.setIfInBounds_toArray, List.set_cons_zero, List.set_cons_succ]
      have W7 : Blk w6.drew wb ((cs.setIfInBounds 26 (.int .i64 ((n : Int) + 1))).setIfInBounds 24 (.slice (some ⟨gb, 0, none⟩) (us.length + 4) cb)) 56 := (unhide WW6).drew
      have C7 : Chg (fun x => x = wb ∨ bs.ownBlock = some x) w4 w6.drew := (unhide CC6).drew
      have R7 : Hid (w6.drew.ownsRow 0 36 1 (.slice (some ⟨gb, 0, none⟩) (us.length + 4) cb) (us.length + 4) (us ++ [.slice av k cv, .slice (some ⟨g1, 0, none⟩) (k + 1) c1, .slice (some ⟨g2, 0, none⟩) (k + 1 + 1) c2, .slice (some ⟨g3, 0, none⟩) (k + 1 + 1 + 1) c3])) := unhide R6
      clear WW6 CC6 R6
      generalize w6.drew = w7 at *
      have hwl7 : wb < w7.heap.size := W7.lt
      refine orders_one 21 (by kernel_rfl) rfl (by rfl) (fun K hK => ?_)
      go_simp
      refine hK.out _ _ (fun _ => ⟨by rw [World.cell?_alloc_past _ _ _ hwl7]; exact hS6.1, by rw [World.cell?_alloc_past _ _ _ hwl7]; exact hS6.2⟩) ?_
      clear hK K
      have K7 : w7.ownsRow 0 3 1 kv us.length (ks.map (Value.int .i64)) := own_chg (unhide BB4).key C7 (fun g hg hX => by
        obtain ⟨c, hc⟩ := own_blk (unhide BB4).key g hg
        rcases hX with rfl | hX
        · exact (by decide : 3 ≠ 56) (Blk.same hc (unhide WW4)).2
        · obtain ⟨c', hc'⟩ := unhide HBST g hX
          exact (by decide : 3 ≠ 36) (Blk.same hc hc').2)
      have hal7 := (Below.refl w7.heap.size w7).alloc (Nat.le_refl _) (.cells #[.int .i64 ((n : Int) + 1), .int .i64 ((n : Int) + 1), .int .i64 ((n : Int) + 1), .int .i64 ((n : Int) + 1)] 3)
      refine orders_one 22 (by kernel_rfl) rfl (by rfl) (fun K hK => ?_)
      refine wp_append_grew (.tmp 60) (.tmp 77) 50 rfl 3 (.int .i64 0) 1 8 Tryz.underlying50 Tryz.infoI rfl (by decide) kv us.length (ks.map (Value.int .i64)) rfl (own_chg K7 (Chg.of_new (X := fun _ => False) hal7) (fun _ _ => id)) ⟨w7.heap.size, 0, none⟩ 4 4 [.int .i64 ((n : Int) + 1), .int .i64 ((n : Int) + 1), .int .i64 ((n : Int) + 1), .int .i64 ((n : Int) + 1)] rfl rfl (news_blk (Blk.new w7 #[.int .i64 ((n : Int) + 1), .int .i64 ((n : Int) + 1), .int .i64 ((n : Int) + 1), .int .i64 ((n : Int) + 1)] 3)) (by intro u hu; simp only [List.mem_cons, List.not_mem_nil, or_false, or_self] at hu; subst hu; rfl) (by decide) (by omega) (by decide) ?_
      intro gk ck w8 hg8
      have hkvT := own_blk K7
      have C8 : Chg (fun x => kv.ownBlock = some x) w7 w8 := ((Chg.refl _ _).alloc _).trans hg8.chg (fun k h => Or.inl h)
      have W8 := W7.chg C8 (fun h => by
        obtain ⟨c, hc⟩ := hkvT wb h
        exact (by decide : 3 ≠ 56) (Blk.same hc W7).2)
      have hS8 : (fun w' : World => w'.cell? ⟨wb, 25, none⟩ = some kv ∧ w'.cell? ⟨wb, 26, none⟩ = some (.int .i64 ((n : Int) + 1))) w8 := ⟨by rw [W8.cell, set_ne (by decide), set_ne (by decide)]; exact h25, by rw [W8.cell, set_ne (by decide), set_at (by rw [hsz]; decide)]⟩
      refine hK.out _ _ (fun _ => hS8) ?_
      clear hK K
      have HG8 := hide hg8
      have HW8 := hide W8
      have HC8 := hide C8
      have HW7 := hide W7
      have HC7 := hide C7
      have HKVT := hide hkvT
      have f25 := W8.free 25
      clear hg8 W8 C8 K7 hal7 hS6 W7 C7 hkvT
      refine orders_one 23 (by kernel_rfl) rfl (by rfl) (fun K hK => ?_)
      go_simp
      refine hK.out _ _ (fun _ => hS8) ?_
      clear hK K
      refine orders_one 24 (by kernel_rfl) rfl (by rfl) (fun K hK => ?_)
      go_simp
      refine hK.out _ _ (fun _ => hS8) ?_
      clear hK K
      refine orders_one 25 (by kernel_rfl) rfl (by rfl) (fun K hK => ?_)
      have c25 := hS8.1
      go_simp
      refine hK.out _ _ (fun h => absurd rfl h) ?_
      clear hK K hS8
      refine orders_end (by kernel_rfl) ?_
      refine NoPanic.normal ?_
      go_wp2
      have hg8 := unhide HG8
      have hw4 := (unhide CC4).size
      have hw7 := (unhide HC7).size
      have hSet : Chg (fun b => b = wb) w8 (w8.setCell ⟨wb, 25, none⟩ (.slice (some ⟨gk, 0, none⟩) (us.length + 4) ck)) := Chg.setCell (X := fun b => b = wb) (Chg.refl _ w8) ⟨wb, 25, none⟩ _ (Or.inl rfl)
      have C9 : Chg (fun x => x = wb ∨ bs.ownBlock = some x ∨ kv.ownBlock = some x) w4 (w8.setCell ⟨wb, 25, none⟩ (.slice (some ⟨gk, 0, none⟩) (us.length + 4) ck)) := (((unhide HC7).mono (fun k _ h => h.elim Or.inl (fun h => Or.inr (Or.inl h)))).trans (unhide HC8) (fun k h => Or.inl (Or.inr (Or.inr h)))).trans hSet (fun k h => Or.inl (Or.inl h))
      have T9 : ∀ g c t', Blk w4 g c t' → t' ≠ 56 → t' ≠ 36 → t' ≠ 3 → ¬ (g = wb ∨ bs.ownBlock = some g ∨ kv.ownBlock = some g) := fun g c t' hb h1 h2 h3 hX => by
        rcases hX with rfl | hX | hX
        · exact h1 (Blk.same hb (unhide WW4)).2
        · obtain ⟨c', hc'⟩ := unhide HBST g hX
          exact h2 (Blk.same hb hc').2
        · obtain ⟨c', hc'⟩ := own_blk (unhide BB4).key g hX
          exact h3 (Blk.same hb hc').2
      have PP : ∀ (u : Value) (l : Nat), PatA w4 5 [.int .u8 m] u l → ∃ l', PatA (w8.setCell ⟨wb, 25, none⟩ (.slice (some ⟨gk, 0, none⟩) (us.length + 4) ck)) 5 (bytP ((n : Int) + 1)) u l' := fun u l hu => ⟨l, by
        unfold bytP
        rw [unhide HM]
        exact hu.chg C9 (fun g hg => by
          obtain ⟨c, hc⟩ := pat_blk hu g hg
          exact T9 g c _ hc (by decide) (by decide) (by decide))⟩
      have hgkw : gk ≠ wb := by
        obtain ⟨c, hc⟩ := own_blk hg8.own gk rfl
        exact ne_of_type hc (unhide HW8) (by decide)
      refine bodyPost_end (results_none rfl _ _ _) rfl ⟨rfl, .slice (some ⟨gb, 0, none⟩) (us.length + 4) cb, .slice (some ⟨gk, 0, none⟩) (us.length + 4) ck, .slice av k cv, .slice (some ⟨g1, 0, none⟩) (k + 1) c1, .slice (some ⟨g2, 0, none⟩) (k + 1 + 1) c2, .slice (some ⟨g3, 0, none⟩) (k + 1 + 1 + 1) c3, ?_⟩
      refine ⟨(unhide HW8).set 25 _, Bk.add (unhide BB4).len (fun i u q hu hq => ?_) ?_ ?_ (PP _ _ (unhide P0d)) (PP _ _ (unhide P1c)) (PP _ _ (unhide P2b)) (PP _ _ (unhide P3)), ?_, fun g hg => ?_, fun g hg => ?_, fun u hu g hg => ?_⟩
      · obtain ⟨l, hp⟩ := (unhide BB4).ent i u q hu hq
        exact ⟨l, hp.chg C9 (fun g hg => by
          obtain ⟨c, hc⟩ := pat_blk hp g hg
          exact T9 g c _ hc (by decide) (by decide) (by decide))⟩
      · refine own_chg (own_chg (unhide R7) (unhide HC8) (fun g hg hX => ?_)) hSet (fun g hg e => unhide HGBW (by rw [← ob_eq hg]; exact e))
        obtain ⟨c, hc⟩ := own_blk (unhide R7) g hg
        obtain ⟨c', hc'⟩ := unhide HKVT g hX
        exact (by decide : 36 ≠ 3) (Blk.same hc hc').2
      · exact own_chg hg8.own hSet (fun g hg e => hgkw (by rw [← ob_eq hg]; exact e))
      · refine ((unhide CC4).mono (fun x _ h => h.elim Or.inl (fun h => Or.inr (Or.inl h)))).trans C9 (fun x h => ?_)
        rcases h with h | h | h
        · exact Or.inl (Or.inl h)
        · exact Or.inl (Or.inr (Or.inr (Or.inl h)))
        · exact Or.inl (Or.inr (Or.inr (Or.inr h)))
      · rw [ob_eq hg]
        rcases unhide HGBN with h | h
        · exact Or.inl h
        · exact Or.inr (by omega)
      · rw [ob_eq hg]
        rcases hg8.at' with h | h
        · exact Or.inl h
        · rw [World.size_alloc] at h
          exact Or.inr (by omega)
      · simp only [List.mem_cons, List.not_mem_nil, or_false] at hu
        have fin : (Value.slice av k cv).ownBlock = some g ∨ wr.heap.size ≤ g → (Value.slice av k cv).ownBlock = some g ∨ w.heap.size ≤ g := fun h => h.elim Or.inl (fun h => Or.inr (by omega))
        rcases hu with rfl | rfl | rfl | rfl
        · exact Or.inl hg
        · exact fin (unhide NN1 g hg)
        · exact fin (unhide NN2 g hg)
        · exact fin (unhide NN3 g hg)

end Go.Proofs.YtdcinlkkjbclmaaGreat
