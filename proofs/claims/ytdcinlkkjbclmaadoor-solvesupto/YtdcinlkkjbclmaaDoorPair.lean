/- The contract of stripe.pair. -/
import Derived.Test.YtdcinlkkjbclmaaDoorPar
import Derived.Test.YtdcinlkkjbclmaaDoorInv
namespace Go.Proofs.YtdcinlkkjbclmaaDoor
open Go.RowKit

/-- what pair finds -/
def pairL (a b : Nat) (p q : List Nat) : List Nat := mulL (xorL q (mulL p (powN b))) (ginv (powN a ^^^ powN b))
theorem pairL_col {a b : Nat} {p q : List Nat} (hp : IsCol p) (hq : IsCol q) : IsCol (pairL a b p q) := mulL_col (xorL_col hq (mulL_col hp _)) _

set_option maxHeartbeats 4000000 in
theorem pair_any (a b : Nat) (p q : List Nat) (w : World) (ha : a < 6) (hb : b < 6) (hp : IsCol p) (hq : IsCol q) (ht : Tabs w) :
    Calls Tryd.prog 46 #[.int .i64 a, .int .i64 b, colV p, colV q] w fun e w' => e = .returned (.tuple #[colV (pairL a b p q), colV (xorL p (pairL a b p q))]) ∧ Below w.heap.size w w' := by
  have hpl := pairL_col (a := a) (b := b) hp hq
  have hspl : (Tryd.prog.info? 51).map (·.size) = some (colA (pairL a b p q)).size := by rw [colA_size hpl]; exact Tryd.colSize
  have hip : (Tryd.prog.info? 51).map (·.size) = some (p.map B).length := by rw [List.length_map, hp.len]; exact Tryd.colSize
  have hiq : (Tryd.prog.info? 51).map (·.size) = some (q.map B).length := by rw [List.length_map, hq.len]; exact Tryd.colSize
  have hil : (Tryd.prog.info? 51).map (·.size) = some ((pairL a b p q).map B).length := by rw [List.length_map, hpl.len]; exact Tryd.colSize
  have hxl : powN a ^^^ powN b < 256 := Nat.xor_lt_two_pow (n := 8) (powN_lt a) (powN_lt b)
  have hu := Tryd.underlying51
  have HX := hide (u8_xor_nat (powN a) (powN b) (powN_lt a) (powN_lt b))
  have b0 : Below w.heap.size w ((((w.alloc (.cells (colA p) 51)).alloc (.cells (colA q) 51)).alloc (.cells zA 51)).alloc (.cells zA 51)) := ((((Below.refl _ _).alloc (Nat.le_refl _) _).alloc (by simp) _).alloc (by simp; omega) _).alloc (by simp; omega) _
  have r0 : RowAt ((((w.alloc (.cells (colA p) 51)).alloc (.cells (colA q) 51)).alloc (.cells zA 51)).alloc (.cells zA 51)) w.heap.size p := (((RowAt.new w p).alloc _).alloc _).alloc _
  have r1 : RowAt ((((w.alloc (.cells (colA p) 51)).alloc (.cells (colA q) 51)).alloc (.cells zA 51)).alloc (.cells zA 51)) (w.heap.size + 1) q := by
    have := ((RowAt.new (w.alloc (.cells (colA p) 51)) q).alloc (.cells zA 51)).alloc (.cells zA 51)
    simpa using this
  have r2 : RowAt ((((w.alloc (.cells (colA p) 51)).alloc (.cells (colA q) 51)).alloc (.cells zA 51)).alloc (.cells zA 51)) (w.heap.size + 1 + 1) zero16 := by
    have := (RowAt.newz ((w.alloc (.cells (colA p) 51)).alloc (.cells (colA q) 51))).alloc (.cells zA 51)
    simpa using this
  have r3 : RowAt ((((w.alloc (.cells (colA p) 51)).alloc (.cells (colA q) 51)).alloc (.cells zA 51)).alloc (.cells zA 51)) (w.heap.size + 1 + 1 + 1) zero16 := by
    have := RowAt.newz (((w.alloc (.cells (colA p) 51)).alloc (.cells (colA q) 51)).alloc (.cells zA 51))
    simpa using this
  have ht0 := ht.below ht.size b0
  have HT := hide ht0
  have B0 := hide b0
  have R0 := hide r0
  have R1 := hide r1
  have R2 := hide r2
  have R3 := hide r3
  clear ht ht0 b0 r0 r1 r2 r3
  unfold colV
  go_enter Tryd.func46, Tryd.ntmps46
  go_wp2_with fail
  generalize (((w.alloc (.cells (colA p) 51)).alloc (.cells (colA q) 51)).alloc (.cells zA 51)).alloc (.cells zA 51) = w0 at *
  refine (power_any a _ ha (unhide HT)).mono ?_
  rintro e w1 ⟨rfl, rfl⟩
  unfold B
  go_wp2_with fail
  refine (power_any b _ hb (unhide HT)).mono ?_
  rintro e w0 ⟨rfl, rfl⟩
  unfold B
  go_wp2
  refine ways_meet (fun g _ W => w0.heap.size ≤ g ∧ RowAt W g (pairL a b p q) ∧ Below w0.heap.size w0 W)
    (fun ac g _ => (((((((((((ac.put (some 17) (.agg (q.map B).toArray)).put (some 18) (.agg (p.map B).toArray)).put (some 19) (.int .u8 (powN b : Nat))).put (some 20) (colV (mulL p (powN b)))).put (some 21) (colV (xorL q (mulL p (powN b))))).put (some 22) (.int .u8 (powN a : Nat))).put (some 23) (.int .u8 (powN b : Nat))).put (some 24) (.int .u8 ((powN a ^^^ powN b : Nat) : Int))).put (some 25) (B (ginv (powN a ^^^ powN b)))).put (some 26) (colV (pairL a b p q))).put (some 12) (.pointer (some ⟨g, 0, none⟩)))) ?_ ?_
  rotate_left
  · intro Q' hfin0
    have hfin1 := hfin0.out
    simp only [Act.put, List.setIfInBounds_toArray, List.set_cons_zero, List.set_cons_succ] at hfin1
    have hfin := hide hfin1
    clear hfin0 hfin1
    refine orders_begin 11 (fun w' => Below w0.heap.size w0 w') (by kernel_rfl) ?_
    refine orders_take 0 (some 17) rfl (by kernel_rfl) (by kernel_rfl) (by kernel_rfl) (by kernel_rfl) (fun _ _ _ h => h) (yieldsIf_load_mid (by rfl) 51 _ rfl (w.heap.size + 1) 0 rfl (q.map B) _ (fun w' hw => range_below (unhide R1).range hw (unhide R1).lt) hu rfl hiq) (Below.refl _ _).drew rfl ?_
    simp only [Act.put, List.setIfInBounds_toArray, List.set_cons_zero, List.set_cons_succ]
    refine orders_take 1 (some 18) rfl (by kernel_rfl) (by kernel_rfl) (by kernel_rfl) (by kernel_rfl) (fun _ _ _ h => h) (yieldsIf_load_mid (by rfl) 51 _ rfl w.heap.size 0 rfl (p.map B) _ (fun w' hw => range_below (unhide R0).range hw (unhide R0).lt) hu rfl hip) (Below.refl _ _).drew rfl ?_
    simp only [Act.put, List.setIfInBounds_toArray, List.set_cons_zero, List.set_cons_succ]
    refine orders_take 2 (some 19) (v := .int .u8 (powN b : Nat)) rfl (by kernel_rfl) (by kernel_rfl) (by kernel_rfl) (by kernel_rfl) (fun _ _ _ h => h) (Or.inl ⟨by rfl, fun _ _ => rfl⟩) (Below.refl _ _).drew rfl ?_
    simp only [Act.put, List.setIfInBounds_toArray, List.set_cons_zero, List.set_cons_succ]
    refine orders_take 5 (some 22) (v := .int .u8 (powN a : Nat)) rfl (by kernel_rfl) (by kernel_rfl) (by kernel_rfl) (by kernel_rfl) (fun _ _ _ h => h) (Or.inl ⟨by rfl, fun _ _ => rfl⟩) (Below.refl _ _).drew rfl ?_
    simp only [Act.put, List.setIfInBounds_toArray, List.set_cons_zero, List.set_cons_succ]
    refine orders_take 6 (some 23) (v := .int .u8 (powN b : Nat)) rfl (by kernel_rfl) (by kernel_rfl) (by kernel_rfl) (by kernel_rfl) (fun _ _ _ h => h) (Or.inl ⟨by rfl, fun _ _ => rfl⟩) (Below.refl _ _).drew rfl ?_
    simp only [Act.put, List.setIfInBounds_toArray, List.set_cons_zero, List.set_cons_succ]
    refine orders_take 7 (some 24) (v := .int .u8 ((powN a ^^^ powN b : Nat) : Int)) rfl (by kernel_rfl) (by kernel_rfl) (by kernel_rfl) (by kernel_rfl) (fun _ _ _ h => h) (Or.inl ⟨by rfl, fun _ _ => by go_simp; rw [unhide HX]⟩) (Below.refl _ _).drew rfl ?_
    simp only [Act.put, List.setIfInBounds_toArray, List.set_cons_zero, List.set_cons_succ]
    have hS0 : Below w0.heap.size w0 w0.drew := (Below.refl _ _).drew
    generalize w0.drew = W0 at *
    refine orders_each [3, 10] (by kernel_rfl) (by simp) ?_
    refine each_cons 3 rfl (by rfl) (fun K hK => ?_) ?_
    · go_simp
      refine (colTimes_any p (powN b) _ hp (powN_lt b) ((unhide HT).below (unhide HT).size hS0)).mono ?_
      rintro e W1 ⟨rfl, hb1⟩
      have hS1 : Below w0.heap.size w0 W1 := hS0.trans (hb1.mono hS0.size)
      refine hK.out _ _ (fun _ => hS1) ?_
      clear hK K
      refine orders_each [4, 10] (by kernel_rfl) (by simp) ?_
      refine each_cons 4 rfl (by rfl) (fun K hK => ?_) ?_
      · go_simp
        refine (plus_any q (mulL p (powN b)) _ hq (mulL_col hp _)).mono ?_
        rintro e W2 ⟨rfl, hb2⟩
        have hS2 : Below w0.heap.size w0 W2 := hS1.trans (hb2.mono hS1.size)
        refine hK.out _ _ (fun _ => hS2) ?_
        clear hK K
        refine orders_each [8, 10] (by kernel_rfl) (by simp) ?_
        refine each_cons 8 rfl (by rfl) (fun K hK => ?_) ?_
        · go_simp
          refine (inverse_any (powN a ^^^ powN b) _ hxl ((unhide HT).below (unhide HT).size hS2)).mono ?_
          rintro e W3 ⟨rfl, rfl⟩
          refine hK.out _ _ (fun _ => hS2) ?_
          clear hK K
          refine orders_each [9, 10] (by kernel_rfl) (by simp) ?_
          refine each_cons 9 rfl (by rfl) (fun K hK => ?_) ?_
          · go_simp
            refine (colTimes_any (xorL q (mulL p (powN b))) (ginv (powN a ^^^ powN b)) _ (xorL_col hq (mulL_col hp _)) (ginv_lt _) ((unhide HT).below (unhide HT).size hS2)).mono ?_
            rintro e W4 ⟨rfl, hb4⟩
            have hS4 : Below w0.heap.size w0 W4 := hS2.trans (hb4.mono hS2.size)
            refine hK.out _ _ (fun _ => hS4) ?_
            clear hK K
            refine orders_one 10 (by kernel_rfl) rfl (by rfl) (fun K hK => ?_)
            go_simp
            have hg5 : w0.heap.size ≤ W4.heap.size := hS4.size
            have hS5 : Below w0.heap.size w0 (W4.alloc (.cells zA 51)) := hS4.alloc hS4.size _
            have hx5 := RowAt.newz W4
            refine hK.out _ _ (fun _ => hS5) ?_
            clear hK K
            generalize W4.alloc (.cells zA 51) = W5 at *
            generalize W4.heap.size = g5 at *
            have hth : W5.there g5 0 (colA (pairL a b p q)).size := by rw [colA_size hpl]; exact hx5.there (by rfl)
            refine orders_one 11 (by kernel_rfl) rfl (by rfl) (fun K hK => ?_)
            refine wp_store_mid 51 _ _ rfl g5 0 (colA (pairL a b p q)) rfl rfl hth hspl (colA_one _) ?_
            refine hK.out _ _ (fun h => absurd rfl h) ?_
            clear hK K
            refine orders_end (by kernel_rfl) ?_
            refine NoPanic.normal ?_
            simp only [Act.put]
            exact unhide hfin g5 0 _ ⟨hg5, hx5.stored (by rfl) hpl.len, below_setCells hS5 g5 0 (colA (pairL a b p q)).toList hg5⟩
          refine each_cons 10 rfl (by rfl) (fun K hK => ?_) ?_
          · go_simp
            have hg6 : w0.heap.size ≤ W3.heap.size := hS2.size
            have hS6 : Below w0.heap.size w0 (W3.alloc (.cells zA 51)) := hS2.alloc hS2.size _
            have hx6 := RowAt.newz W3
            refine hK.out _ _ (fun _ => hS6) ?_
            clear hK K
            generalize W3.alloc (.cells zA 51) = W6 at *
            generalize W3.heap.size = g6 at *
            refine orders_one 9 (by kernel_rfl) rfl (by rfl) (fun K hK => ?_)
            go_simp
            refine (colTimes_any (xorL q (mulL p (powN b))) (ginv (powN a ^^^ powN b)) _ (xorL_col hq (mulL_col hp _)) (ginv_lt _) ((unhide HT).below (unhide HT).size hS6)).mono ?_
            rintro e W7 ⟨rfl, hb7⟩
            have hS7 : Below w0.heap.size w0 W7 := hS6.trans (hb7.mono hS6.size)
            have hx7 := hx6.below hb7 hx6.lt
            refine hK.out _ _ (fun _ => hS7) ?_
            clear hK K
            have hth : W7.there g6 0 (colA (pairL a b p q)).size := by rw [colA_size hpl]; exact hx7.there (by rfl)
            refine orders_one 11 (by kernel_rfl) rfl (by rfl) (fun K hK => ?_)
            refine wp_store_mid 51 _ _ rfl g6 0 (colA (pairL a b p q)) rfl rfl hth hspl (colA_one _) ?_
            refine hK.out _ _ (fun h => absurd rfl h) ?_
            clear hK K
            refine orders_end (by kernel_rfl) ?_
            refine NoPanic.normal ?_
            simp only [Act.put]
            exact unhide hfin g6 0 _ ⟨hg6, hx7.stored (by rfl) hpl.len, below_setCells hS7 g6 0 (colA (pairL a b p q)).toList hg6⟩
          exact each_nil
        refine each_cons 10 rfl (by rfl) (fun K hK => ?_) ?_
        · go_simp
          have hg8 : w0.heap.size ≤ W2.heap.size := hS2.size
          have hS8 : Below w0.heap.size w0 (W2.alloc (.cells zA 51)) := hS2.alloc hS2.size _
          have hx8 := RowAt.newz W2
          refine hK.out _ _ (fun _ => hS8) ?_
          clear hK K
          generalize W2.alloc (.cells zA 51) = W8 at *
          generalize W2.heap.size = g8 at *
          refine orders_one 8 (by kernel_rfl) rfl (by rfl) (fun K hK => ?_)
          go_simp
          refine (inverse_any (powN a ^^^ powN b) _ hxl ((unhide HT).below (unhide HT).size hS8)).mono ?_
          rintro e W9 ⟨rfl, rfl⟩
          refine hK.out _ _ (fun _ => hS8) ?_
          clear hK K
          refine orders_one 9 (by kernel_rfl) rfl (by rfl) (fun K hK => ?_)
          go_simp
          refine (colTimes_any (xorL q (mulL p (powN b))) (ginv (powN a ^^^ powN b)) _ (xorL_col hq (mulL_col hp _)) (ginv_lt _) ((unhide HT).below (unhide HT).size hS8)).mono ?_
          rintro e W10 ⟨rfl, hb10⟩
          have hS10 : Below w0.heap.size w0 W10 := hS8.trans (hb10.mono hS8.size)
          have hx10 := hx8.below hb10 hx8.lt
          refine hK.out _ _ (fun _ => hS10) ?_
          clear hK K
          have hth : W10.there g8 0 (colA (pairL a b p q)).size := by rw [colA_size hpl]; exact hx10.there (by rfl)
          refine orders_one 11 (by kernel_rfl) rfl (by rfl) (fun K hK => ?_)
          refine wp_store_mid 51 _ _ rfl g8 0 (colA (pairL a b p q)) rfl rfl hth hspl (colA_one _) ?_
          refine hK.out _ _ (fun h => absurd rfl h) ?_
          clear hK K
          refine orders_end (by kernel_rfl) ?_
          refine NoPanic.normal ?_
          simp only [Act.put]
          exact unhide hfin g8 0 _ ⟨hg8, hx10.stored (by rfl) hpl.len, below_setCells hS10 g8 0 (colA (pairL a b p q)).toList hg8⟩
        exact each_nil
      refine each_cons 10 rfl (by rfl) (fun K hK => ?_) ?_
      · go_simp
        have hg11 : w0.heap.size ≤ W1.heap.size := hS1.size
        have hS11 : Below w0.heap.size w0 (W1.alloc (.cells zA 51)) := hS1.alloc hS1.size _
        have hx11 := RowAt.newz W1
        refine hK.out _ _ (fun _ => hS11) ?_
        clear hK K
        generalize W1.alloc (.cells zA 51) = W11 at *
        generalize W1.heap.size = g11 at *
        refine orders_one 4 (by kernel_rfl) rfl (by rfl) (fun K hK => ?_)
        go_simp
        refine (plus_any q (mulL p (powN b)) _ hq (mulL_col hp _)).mono ?_
        rintro e W12 ⟨rfl, hb12⟩
        have hS12 : Below w0.heap.size w0 W12 := hS11.trans (hb12.mono hS11.size)
        have hx12 := hx11.below hb12 hx11.lt
        refine hK.out _ _ (fun _ => hS12) ?_
        clear hK K
        refine orders_one 8 (by kernel_rfl) rfl (by rfl) (fun K hK => ?_)
        go_simp
        refine (inverse_any (powN a ^^^ powN b) _ hxl ((unhide HT).below (unhide HT).size hS12)).mono ?_
        rintro e W13 ⟨rfl, rfl⟩
        refine hK.out _ _ (fun _ => hS12) ?_
        clear hK K
        refine orders_one 9 (by kernel_rfl) rfl (by rfl) (fun K hK => ?_)
        go_simp
        refine (colTimes_any (xorL q (mulL p (powN b))) (ginv (powN a ^^^ powN b)) _ (xorL_col hq (mulL_col hp _)) (ginv_lt _) ((unhide HT).below (unhide HT).size hS12)).mono ?_
        rintro e W14 ⟨rfl, hb14⟩
        have hS14 : Below w0.heap.size w0 W14 := hS12.trans (hb14.mono hS12.size)
        have hx14 := hx12.below hb14 hx12.lt
        refine hK.out _ _ (fun _ => hS14) ?_
        clear hK K
        have hth : W14.there g11 0 (colA (pairL a b p q)).size := by rw [colA_size hpl]; exact hx14.there (by rfl)
        refine orders_one 11 (by kernel_rfl) rfl (by rfl) (fun K hK => ?_)
        refine wp_store_mid 51 _ _ rfl g11 0 (colA (pairL a b p q)) rfl rfl hth hspl (colA_one _) ?_
        refine hK.out _ _ (fun h => absurd rfl h) ?_
        clear hK K
        refine orders_end (by kernel_rfl) ?_
        refine NoPanic.normal ?_
        simp only [Act.put]
        exact unhide hfin g11 0 _ ⟨hg11, hx14.stored (by rfl) hpl.len, below_setCells hS14 g11 0 (colA (pairL a b p q)).toList hg11⟩
      exact each_nil
    refine each_cons 10 rfl (by rfl) (fun K hK => ?_) ?_
    · go_simp
      have hg15 : w0.heap.size ≤ W0.heap.size := hS0.size
      have hS15 : Below w0.heap.size w0 (W0.alloc (.cells zA 51)) := hS0.alloc hS0.size _
      have hx15 := RowAt.newz W0
      refine hK.out _ _ (fun _ => hS15) ?_
      clear hK K
      generalize W0.alloc (.cells zA 51) = W15 at *
      generalize W0.heap.size = g15 at *
      refine orders_one 3 (by kernel_rfl) rfl (by rfl) (fun K hK => ?_)
      go_simp
      refine (colTimes_any p (powN b) _ hp (powN_lt b) ((unhide HT).below (unhide HT).size hS15)).mono ?_
      rintro e W16 ⟨rfl, hb16⟩
      have hS16 : Below w0.heap.size w0 W16 := hS15.trans (hb16.mono hS15.size)
      have hx16 := hx15.below hb16 hx15.lt
      refine hK.out _ _ (fun _ => hS16) ?_
      clear hK K
      refine orders_one 4 (by kernel_rfl) rfl (by rfl) (fun K hK => ?_)
      go_simp
      refine (plus_any q (mulL p (powN b)) _ hq (mulL_col hp _)).mono ?_
      rintro e W17 ⟨rfl, hb17⟩
      have hS17 : Below w0.heap.size w0 W17 := hS16.trans (hb17.mono hS16.size)
      have hx17 := hx16.below hb17 hx16.lt
      refine hK.out _ _ (fun _ => hS17) ?_
      clear hK K
      refine orders_one 8 (by kernel_rfl) rfl (by rfl) (fun K hK => ?_)
      go_simp
      refine (inverse_any (powN a ^^^ powN b) _ hxl ((unhide HT).below (unhide HT).size hS17)).mono ?_
      rintro e W18 ⟨rfl, rfl⟩
      refine hK.out _ _ (fun _ => hS17) ?_
      clear hK K
      refine orders_one 9 (by kernel_rfl) rfl (by rfl) (fun K hK => ?_)
      go_simp
      refine (colTimes_any (xorL q (mulL p (powN b))) (ginv (powN a ^^^ powN b)) _ (xorL_col hq (mulL_col hp _)) (ginv_lt _) ((unhide HT).below (unhide HT).size hS17)).mono ?_
      rintro e W19 ⟨rfl, hb19⟩
      have hS19 : Below w0.heap.size w0 W19 := hS17.trans (hb19.mono hS17.size)
      have hx19 := hx17.below hb19 hx17.lt
      refine hK.out _ _ (fun _ => hS19) ?_
      clear hK K
      have hth : W19.there g15 0 (colA (pairL a b p q)).size := by rw [colA_size hpl]; exact hx19.there (by rfl)
      refine orders_one 11 (by kernel_rfl) rfl (by rfl) (fun K hK => ?_)
      refine wp_store_mid 51 _ _ rfl g15 0 (colA (pairL a b p q)) rfl rfl hth hspl (colA_one _) ?_
      refine hK.out _ _ (fun h => absurd rfl h) ?_
      clear hK K
      refine orders_end (by kernel_rfl) ?_
      refine NoPanic.normal ?_
      simp only [Act.put]
      exact unhide hfin g15 0 _ ⟨hg15, hx19.stored (by rfl) hpl.len, below_setCells hS19 g15 0 (colA (pairL a b p q)).toList hg15⟩
    exact each_nil
  rintro g _ w3 ⟨hg, rg, b3⟩
  simp only [Act.put, List.setIfInBounds_toArray, List.set_cons_zero, List.set_cons_succ]
  have hxc := xorL_col hp hpl
  have hspx : (Tryd.prog.info? 51).map (·.size) = some (colA (xorL p (pairL a b p q))).size := by rw [colA_size hxc]; exact Tryd.colSize
  obtain ⟨f, hfe⟩ : ∃ f, pairL a b p q = f := ⟨_, rfl⟩
  rw [hfe] at hpl hspl hil rg hxc hspx
  have HFE := hide hfe
  have hne1 := (unhide R3).lt
  have S3 := hide b3.size
  have P0 := hide ((unhide R0).below b3 (unhide R0).lt)
  have P2 := hide ((unhide R2).below b3 (unhide R2).lt)
  have P3 := hide ((unhide R3).below b3 (unhide R3).lt)
  have PB := hide ((unhide B0).trans (b3.mono (unhide B0).size))
  have PG := hide rg
  have hw0 := (unhide B0).size
  rw [hfe]
  clear R0 R1 R2 R3 HT B0 rg b3 hfe HX hiq hq hxl
  go_wp2
  refine wp_region_noPanic ?_
  refine orders_begin 5 (fun w' => RowAt w' g f ∧ RowAt w' w.heap.size p) (by kernel_rfl) ?_
  refine orders_take 0 (some 27) rfl (by kernel_rfl) (by kernel_rfl) (by kernel_rfl) (by kernel_rfl) (fun _ _ _ h => h) (yieldsIf_load_mid (by rfl) 51 _ rfl g 0 rfl (f.map B) _ (fun w' hw => hw.1.range) hu rfl hil) ⟨unhide PG, unhide P0⟩ rfl ?_
  simp only [Act.put, List.setIfInBounds_toArray, List.set_cons_zero, List.set_cons_succ]
  refine orders_take 1 (some 28) rfl (by kernel_rfl) (by kernel_rfl) (by kernel_rfl) (by kernel_rfl) (fun _ _ _ h => h) (yieldsIf_load_mid (by rfl) 51 _ rfl w.heap.size 0 rfl (p.map B) _ (fun w' hw => hw.2.range) hu rfl hip) ⟨unhide PG, unhide P0⟩ rfl ?_
  simp only [Act.put, List.setIfInBounds_toArray, List.set_cons_zero, List.set_cons_succ]
  refine orders_take 2 (some 29) rfl (by kernel_rfl) (by kernel_rfl) (by kernel_rfl) (by kernel_rfl) (fun _ _ _ h => h) (yieldsIf_load_mid (by rfl) 51 _ rfl g 0 rfl (f.map B) _ (fun w' hw => hw.1.range) hu rfl hil) ⟨unhide PG, unhide P0⟩ rfl ?_
  simp only [Act.put, List.setIfInBounds_toArray, List.set_cons_zero, List.set_cons_succ]
  have q0 : RowAt w3.drew w.heap.size p := unhide P0
  have q2 : RowAt w3.drew (w.heap.size + 1 + 1) zero16 := unhide P2
  have q3 : RowAt w3.drew (w.heap.size + 1 + 1 + 1) zero16 := unhide P3
  have qb : Below w.heap.size w w3.drew := (unhide PB).drew
  have qg : RowAt w3.drew g f := unhide PG
  clear P0 P2 P3 PB PG
  generalize w3.drew = W at *
  refine orders_one 3 (by kernel_rfl) rfl (by rfl) (fun K hK => ?_)
  go_simp
  refine (plus_any p f _ hp hpl).mono ?_
  rintro e W1 ⟨rfl, hb1⟩
  have q0' := q0.below hb1 q0.lt
  have q2' := q2.below hb1 q2.lt
  have q3' := q3.below hb1 q3.lt
  have qg' := qg.below hb1 qg.lt
  have qb' := qb.trans (hb1.mono qb.size)
  clear q0 q2 q3 qg qb
  refine hK.out _ _ (fun _ => ⟨qg', q0'⟩) ?_
  clear hK K
  have hth1 : W1.there (w.heap.size + 1 + 1) 0 (colA f).size := by rw [colA_size hpl]; exact q2'.there (by rfl)
  refine orders_one 4 (by kernel_rfl) rfl (by rfl) (fun K hK => ?_)
  refine wp_store_mid 51 _ _ rfl (w.heap.size + 1 + 1) 0 (colA f) rfl rfl hth1 hspl (colA_one _) ?_
  refine hK.out _ _ (fun _ => ⟨qg'.setCells_other _ _ _ (by omega), q0'.setCells_other _ _ _ (by omega)⟩) ?_
  clear hK K
  have s3 := q3'.setCells_other (w.heap.size + 1 + 1) 0 (colA f).toList (by omega)
  have s2 := q2'.stored (by rfl) hpl.len
  have sb := below_setCells qb' (w.heap.size + 1 + 1) 0 (colA f).toList (by omega)
  clear q0' q2' q3' qg' qb' hth1
  generalize W1.setCells (w.heap.size + 1 + 1) 0 (colA f).toList = W2 at *
  have hth2 : W2.there (w.heap.size + 1 + 1 + 1) 0 (colA (xorL p f)).size := by rw [colA_size hxc]; exact s3.there (by rfl)
  refine orders_one 5 (by kernel_rfl) rfl (by rfl) (fun K hK => ?_)
  refine wp_store_mid 51 _ _ rfl (w.heap.size + 1 + 1 + 1) 0 (colA (xorL p f)) rfl rfl hth2 hspx (colA_one _) ?_
  refine hK.out _ _ (fun h => absurd rfl h) ?_
  clear hK K
  refine orders_end (by kernel_rfl) ?_
  refine NoPanic.normal ?_
  simp only [Act.put]
  have t2 := hide (s2.setCells_other (w.heap.size + 1 + 1 + 1) 0 (colA (xorL p f)).toList (by omega))
  have t3 := hide (s3.stored (by rfl) hxc.len)
  have tb := hide (below_setCells sb (w.heap.size + 1 + 1 + 1) 0 (colA (xorL p f)).toList (by omega))
  clear s2 s3 sb hth2
  generalize W2.setCells (w.heap.size + 1 + 1 + 1) 0 (colA (xorL p f)).toList = W3 at *
  go_wp2
  exact bodyPost_ret (v := .tuple #[colV f, colV (xorL p f)]) (results_two_rows Tryd.results46 _ _ (w.heap.size + 1 + 1) (w.heap.size + 1 + 1 + 1) _ _ _ _ _ _ _ rfl rfl (unhide t2) (unhide t3) hu rfl hspl hspx) rfl ⟨by rw [unhide HFE]; rfl, unhide tb⟩

end Go.Proofs.YtdcinlkkjbclmaaDoor
