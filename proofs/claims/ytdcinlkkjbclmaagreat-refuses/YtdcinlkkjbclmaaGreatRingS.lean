/- The ring of api.Result. -/
import Derived.Test.YtdcinlkkjbclmaaGreatVBase
namespace Go.Proofs.YtdcinlkkjbclmaaGreat
open Go.RowKit

theorem elInfoS : (Tryz.prog.info? 103).map (·.size) = some 5 := by kernel_rfl

set_option maxRecDepth 100000 in
set_option maxHeartbeats 1000000 in
theorem firstS_some (vb o : Nat) (cs : Array Value) (t0 : TypeId) (g n f : Nat) (x : List Value) (r : List (List Value)) (w : World) (hb : Blk w vb cs t0)
    (h0 : cs[o]? = some (plV g n)) (h1 : cs[o + 1]? = some (.int .i64 (f : Int))) (h2 : cs[o + 2]? = some (.int .i64 ((r.length + 1 : Nat) : Int))) (hr : RingB w 103 5 g n f (x :: r)) (hn : n ≤ 1000000) :
    Calls Tryz.prog 127 #[.pointer (some ⟨vb, o, none⟩)] w fun e w' => e = .returned (.tuple #[.agg x.toArray, .bool true]) ∧ Below w.heap.size w w' := by
  have hl := hr.len
  simp only [List.length_cons] at hl
  have hf : f < n := by rcases hr.fst with h | ⟨h, _⟩ <;> omega
  have hx := (hr.each x (by simp)).1
  have hone := (hr.each x (by simp)).2
  have hel := hr.el 0 x rfl
  rw [Nat.add_zero, Nat.mod_eq_of_lt hf] at hel
  have hvl := hb.lt
  have hpl : plV g n = .slice (some ⟨g, 0, none⟩) n n := if_neg (by omega)
  rw [hpl] at h0
  have c0 := hb.cell o
  have c1 := hb.cell (o + 1)
  have c2 := hb.cell (o + 2)
  rw [h0] at c0
  rw [h1] at c1
  rw [h2] at c2
  have hgl : g < w.heap.size := by
    obtain ⟨cs', hcs, _⟩ := hr.blk (by omega)
    exact hcs.lt
  have hcnt : ((((r.length + 1 : Nat) : Int)) == 0) = false := by simp; omega
  have HB := hide hb
  have HR := hide hr
  clear hb hr hel hone h0 h1 h2 hpl
  go_enter Tryz.func127, Tryz.ntmps127
  go_wp2_with fail
  have hB1 := Blk.new w #[Value.int .i64 0, Value.int .i64 0, Value.slice none 0 0, Value.int .i64 0, Value.int .i64 0] 103
  have hB2 := hB1.alloc (.cells #[Value.int .i64 0, Value.int .i64 0, Value.slice none 0 0, Value.int .i64 0, Value.int .i64 0] 103)
  have hBW := ((Below.refl w.heap.size w).alloc (Nat.le_refl _) (.cells #[Value.int .i64 0, Value.int .i64 0, Value.slice none 0 0, Value.int .i64 0, Value.int .i64 0] 103)).alloc (by simp) (.cells #[Value.int .i64 0, Value.int .i64 0, Value.slice none 0 0, Value.int .i64 0, Value.int .i64 0] 103)
  generalize (w.alloc (.cells #[Value.int .i64 0, Value.int .i64 0, Value.slice none 0 0, Value.int .i64 0, Value.int .i64 0] 103)).alloc (.cells #[Value.int .i64 0, Value.int .i64 0, Value.slice none 0 0, Value.int .i64 0, Value.int .i64 0] 103) = W at *
  have hWc : ∀ a : Addr, a.block < w.heap.size → W.cell? a = w.cell? a := fun a ha => hBW.cell ha
  have C0 := (hWc ⟨vb, o, none⟩ hvl).trans c0
  have C1 := (hWc ⟨vb, o + 1, none⟩ hvl).trans c1
  have hel := (unhide HR).el 0 x rfl
  rw [Nat.add_zero, Nat.mod_eq_of_lt hf] at hel
  have hrg : W.rangeAt g (f * 5) x := fun j v hj => (hWc _ hgl).trans (hel j v hj)
  have hfi0 : (0 : Int) ≤ (f : Int) := by omega
  have hfi1 : (f : Int) < (n : Int) := by omega
  have hth := hB2.there 0 5 (by simp)
  have HBW := hide hBW
  have HB2 := hide hB2
  have HRG := hide hrg
  have HTH := hide hth
  clear c0 c1 c2 hel hrg hWc hB1 hBW hB2 hth
  refine region_tail 10 (by kernel_rfl) (by kernel_rfl) ?_
  rintro Wd hWd
  have D0 : Wd.cell? ⟨vb, o, none⟩ = some (.slice (some ⟨g, 0, none⟩) n n) := by rw [hWd]; exact C0
  have D1 : Wd.cell? ⟨vb, o + 1, none⟩ = some (.int .i64 (f : Int)) := by rw [hWd]; exact C1
  have HDB : Hid (Below w.heap.size w Wd) := by rw [hWd]; exact (unhide HBW).drew
  have HD2 : Hid (Blk Wd w.heap.size #[Value.int .i64 0, Value.int .i64 0, Value.slice none 0 0, Value.int .i64 0, Value.int .i64 0] 103) := by rw [hWd]; exact unhide HB2
  have HDR : Hid (Wd.rangeAt g (f * 5) x) := by rw [hWd]; exact unhide HRG
  have HDT : Hid (Wd.there w.heap.size 0 x.toArray.size) := by rw [hWd]; simp only [List.size_toArray, hx]; exact unhide HTH
  have hszx : (Tryz.prog.info? 103).map (·.size) = some x.toArray.size := by rw [List.size_toArray, hx]; exact elInfoS
  clear hWd C0 C1 HBW HB2 HRG HTH
  simp only [List.take_succ_cons, List.take_zero, List.drop_succ_cons, List.drop_zero]
  repeat still_step
  refine still_load_mid rfl 103 _ rfl g (f * 5) rfl x _ (unhide HDR) Tryz.underlying103 rfl hszx ?_
  refine wpStill_nil ?_
  go_wp2_with (refine wpList_store_mid rfl 103 _ _ rfl w.heap.size 0 x.toArray rfl rfl (unhide HDT) hszx (all_oneCell_toArray ((unhide HR).each x (by simp)).2) ?_)
  refine bodyPost_ret (results_cell_tmp Tryz.results127 _ _ w.heap.size 103 x.toArray (0, 0) _ rfl ((unhide HD2).whole x (by rw [hx]; rfl)) Tryz.underlying103 rfl hszx) rfl ⟨rfl, ?_⟩
  exact below_setCells (unhide HDB) w.heap.size 0 x (Nat.le_refl _)

theorem zOneS : (#[Value.int .i64 0, Value.int .i64 0, Value.slice none 0 0, Value.int .i64 0, Value.int .i64 0] : Array Value).all (·.oneCell') = true := by decide +kernel

set_option maxRecDepth 100000 in
set_option maxHeartbeats 2000000 in
theorem takeS_some (vb o : Nat) (cs : Array Value) (t0 : TypeId) (g n f : Nat) (x : List Value) (r : List (List Value)) (w : World) (hb : Blk w vb cs t0)
    (h0 : cs[o]? = some (plV g n)) (h1 : cs[o + 1]? = some (.int .i64 (f : Int))) (h2 : cs[o + 2]? = some (.int .i64 ((r.length + 1 : Nat) : Int))) (hr : RingB w 103 5 g n f (x :: r)) (hn : n ≤ 1000000) (hvg : vb ≠ g) :
    Calls Tryz.prog 112 #[.pointer (some ⟨vb, o, none⟩)] w fun e w' => e = .returned (.tuple #[.agg x.toArray, .bool true]) ∧
      Blk w' vb ((cs.setIfInBounds (o + 1) (.int .i64 (((f + 1) % n : Nat) : Int))).setIfInBounds (o + 2) (.int .i64 (r.length : Int))) t0 ∧ RingB w' 103 5 g n ((f + 1) % n) r ∧ Chg (fun b => b = vb ∨ b = g) w w' := by
  have hl := hr.len
  simp only [List.length_cons] at hl
  have hf : f < n := by rcases hr.fst with h | ⟨h, _⟩ <;> omega
  have hx := (hr.each x (by simp)).1
  obtain ⟨gs, hgs, hgz⟩ := hr.blk (by omega)
  have hvl := hb.lt
  have hgl := hgs.lt
  have hpl : plV g n = .slice (some ⟨g, 0, none⟩) n n := if_neg (by omega)
  have hfk : f * 5 + 5 ≤ gs.size := by rw [hgz]; have := Nat.mul_le_mul_right 5 (show f + 1 ≤ n by omega); omega
  have hszx : (Tryz.prog.info? 103).map (·.size) = some x.toArray.size := by rw [List.size_toArray, hx]; exact elInfoS
  have hszz : (Tryz.prog.info? 103).map (·.size) = some #[Value.int .i64 0, Value.int .i64 0, Value.slice none 0 0, Value.int .i64 0, Value.int .i64 0].size := elInfoS
  have hszl : (Tryz.prog.info? 103).map (·.size) = some [Value.int .i64 0, Value.int .i64 0, Value.slice none 0 0, Value.int .i64 0, Value.int .i64 0].length := elInfoS
  have honex := all_oneCell_toArray (hr.each x (by simp)).2
  have HR := hide hr
  have HX := hide hx
  have H0 := hide h0
  have H1 := hide h1
  have H2 := hide h2
  have HPL := hide hpl
  have HFK := hide hfk
  have HGZ := hide hgz
  have HSX := hide hszx
  have HSZ := hide hszz
  have HSL := hide hszl
  have HOX := hide honex
  have HGS := hide hgs
  have HB1 := hide (hb.alloc (.cells #[Value.int .i64 0, Value.int .i64 0, Value.slice none 0 0, Value.int .i64 0, Value.int .i64 0] 103))
  have HG1 := hide (hgs.alloc (.cells #[Value.int .i64 0, Value.int .i64 0, Value.slice none 0 0, Value.int .i64 0, Value.int .i64 0] 103))
  have HE1 := hide (Blk.new w #[Value.int .i64 0, Value.int .i64 0, Value.slice none 0 0, Value.int .i64 0, Value.int .i64 0] 103)
  have HC1 : Hid (Chg (fun b => b = vb ∨ b = g) w (w.alloc (.cells #[Value.int .i64 0, Value.int .i64 0, Value.slice none 0 0, Value.int .i64 0, Value.int .i64 0] 103))) := (Chg.refl _ _).alloc _
  clear hr hx h0 h1 h2 hpl hfk hgz hszx hszz hszl honex hb hgs
  go_enter Tryz.func112, Tryz.ntmps112
  go_wp2_with fail
  refine (firstS_some vb o cs t0 g n f x r _ (unhide HB1) (unhide H0) (unhide H1) (unhide H2) ((unhide HR).chg (X := fun _ => False) ((Chg.refl _ _).alloc _) id) hn).mono ?_
  rintro e w2 ⟨rfl, hb2⟩
  have hs2 := hb2.size
  simp only [World.size_alloc] at hs2
  have HB2 := hide ((unhide HB1).below hb2 (by simp; omega))
  have HG2 := hide ((unhide HG1).below hb2 (by simp; omega))
  have HE2 := hide ((unhide HE1).below hb2 (by simp))
  have HC2 := hide (chg_new (unhide HC1) hb2)
  have HN2 := hide (Blk.new w2 #[Value.int .i64 0, Value.int .i64 0, Value.slice none 0 0, Value.int .i64 0, Value.int .i64 0] 103)
  have HT2 : Hid ((w2.alloc (.cells #[Value.int .i64 0, Value.int .i64 0, Value.slice none 0 0, Value.int .i64 0, Value.int .i64 0] 103)).there w2.heap.size 0 x.toArray.size) := by rw [show x.toArray.size = 5 from unhide HX]; exact (unhide HN2).there 0 5 (by simp)
  have HB3 : Hid (Blk (((w2.alloc (.cells #[Value.int .i64 0, Value.int .i64 0, Value.slice none 0 0, Value.int .i64 0, Value.int .i64 0] 103)).setCells w2.heap.size 0 x).alloc (.cells #[Value.int .i64 0, Value.int .i64 0, Value.slice none 0 0, Value.int .i64 0, Value.int .i64 0] 103)) vb cs t0) := (((unhide HB2).alloc _).setCells_other _ _ _ (by omega)).alloc _
  have HG3 : Hid (Blk (((w2.alloc (.cells #[Value.int .i64 0, Value.int .i64 0, Value.slice none 0 0, Value.int .i64 0, Value.int .i64 0] 103)).setCells w2.heap.size 0 x).alloc (.cells #[Value.int .i64 0, Value.int .i64 0, Value.slice none 0 0, Value.int .i64 0, Value.int .i64 0] 103)) g gs 103) := (((unhide HG2).alloc _).setCells_other _ _ _ (by omega)).alloc _
  have HE3 : Hid (Blk (((w2.alloc (.cells #[Value.int .i64 0, Value.int .i64 0, Value.slice none 0 0, Value.int .i64 0, Value.int .i64 0] 103)).setCells w2.heap.size 0 x).alloc (.cells #[Value.int .i64 0, Value.int .i64 0, Value.slice none 0 0, Value.int .i64 0, Value.int .i64 0] 103)) w.heap.size #[Value.int .i64 0, Value.int .i64 0, Value.slice none 0 0, Value.int .i64 0, Value.int .i64 0] 103) := (((unhide HE2).alloc _).setCells_other _ _ _ (by omega)).alloc _
  have HL3 : Hid (Blk (((w2.alloc (.cells #[Value.int .i64 0, Value.int .i64 0, Value.slice none 0 0, Value.int .i64 0, Value.int .i64 0] 103)).setCells w2.heap.size 0 x).alloc (.cells #[Value.int .i64 0, Value.int .i64 0, Value.slice none 0 0, Value.int .i64 0, Value.int .i64 0] 103)) w2.heap.size x.toArray 103) := ((unhide HN2).whole x (by rw [unhide HX]; rfl)).alloc _
  have HZ3 : Hid (Blk (((w2.alloc (.cells #[Value.int .i64 0, Value.int .i64 0, Value.slice none 0 0, Value.int .i64 0, Value.int .i64 0] 103)).setCells w2.heap.size 0 x).alloc (.cells #[Value.int .i64 0, Value.int .i64 0, Value.slice none 0 0, Value.int .i64 0, Value.int .i64 0] 103)) (w2.heap.size + 1) #[Value.int .i64 0, Value.int .i64 0, Value.slice none 0 0, Value.int .i64 0, Value.int .i64 0] 103) := by
    have := Blk.new ((w2.alloc (.cells #[Value.int .i64 0, Value.int .i64 0, Value.slice none 0 0, Value.int .i64 0, Value.int .i64 0] 103)).setCells w2.heap.size 0 x) #[Value.int .i64 0, Value.int .i64 0, Value.slice none 0 0, Value.int .i64 0, Value.int .i64 0] 103
    rw [setCells_size, World.size_alloc] at this
    exact this
  have HC3 : Hid (Chg (fun b => b = vb ∨ b = g) w (((w2.alloc (.cells #[Value.int .i64 0, Value.int .i64 0, Value.slice none 0 0, Value.int .i64 0, Value.int .i64 0] 103)).setCells w2.heap.size 0 x).alloc (.cells #[Value.int .i64 0, Value.int .i64 0, Value.slice none 0 0, Value.int .i64 0, Value.int .i64 0] 103))) := (((unhide HC2).alloc _).setCells _ _ _ (Or.inr (by omega))).alloc _
  have hz3 : ((w2.alloc (.cells #[Value.int .i64 0, Value.int .i64 0, Value.slice none 0 0, Value.int .i64 0, Value.int .i64 0] 103)).setCells w2.heap.size 0 x).heap.size = w2.heap.size + 1 := by rw [setCells_size, World.size_alloc]
  clear hb2 HB2 HG2 HE2 HC2 HB1 HG1 HE1 HC1 HN2
  go_wp2_with (refine wpList_store_mid rfl 103 _ _ rfl w2.heap.size 0 x.toArray rfl rfl (unhide HT2) (unhide HSX) (unhide HOX) ?_)
  generalize ((w2.alloc (.cells #[Value.int .i64 0, Value.int .i64 0, Value.slice none 0 0, Value.int .i64 0, Value.int .i64 0] 103)).setCells w2.heap.size 0 x).alloc (.cells #[Value.int .i64 0, Value.int .i64 0, Value.slice none 0 0, Value.int .i64 0, Value.int .i64 0] 103) = w3 at *
  have hfi0 : (0 : Int) ≤ (f : Int) := by omega
  have hfi1 : (f : Int) < (n : Int) := by omega
  refine region_tail 10 (by kernel_rfl) (by kernel_rfl) ?_
  rintro w4 hw4
  have HB4 : Hid (Blk w4 vb cs t0) := by rw [hw4]; exact unhide HB3
  have HG4 : Hid (Blk w4 g gs 103) := by rw [hw4]; exact unhide HG3
  have HE4 : Hid (Blk w4 w.heap.size #[Value.int .i64 0, Value.int .i64 0, Value.slice none 0 0, Value.int .i64 0, Value.int .i64 0] 103) := by rw [hw4]; exact unhide HE3
  have HL4 : Hid (Blk w4 w2.heap.size x.toArray 103) := by rw [hw4]; exact unhide HL3
  have HZ4 : Hid (Blk w4 (w2.heap.size + 1) #[Value.int .i64 0, Value.int .i64 0, Value.slice none 0 0, Value.int .i64 0, Value.int .i64 0] 103) := by rw [hw4]; exact unhide HZ3
  have HC4 : Hid (Chg (fun b => b = vb ∨ b = g) w w4) := by rw [hw4]; exact (unhide HC3).drew
  have D0 : w4.cell? ⟨vb, o, none⟩ = some (.slice (some ⟨g, 0, none⟩) n n) := by rw [(unhide HB4).cell, unhide H0, unhide HPL]
  have D1 : w4.cell? ⟨vb, o + 1, none⟩ = some (.int .i64 (f : Int)) := by rw [(unhide HB4).cell, unhide H1]
  have HDR : Hid (w4.rangeAt (w2.heap.size + 1) 0 [Value.int .i64 0, Value.int .i64 0, Value.slice none 0 0, Value.int .i64 0, Value.int .i64 0]) := (unhide HZ4).range 0 _ (fun j v hj => by simpa using hj)
  have HDT : Hid (w4.there g (f * 5) #[Value.int .i64 0, Value.int .i64 0, Value.slice none 0 0, Value.int .i64 0, Value.int .i64 0].size) := (unhide HG4).there _ _ (unhide HFK)
  clear hw4 HB3 HG3 HE3 HL3 HZ3 HC3 HT2
  simp only [List.take_succ_cons, List.take_zero, List.drop_succ_cons, List.drop_zero]
  repeat still_step
  refine still_load_mid rfl 103 _ rfl (w2.heap.size + 1) 0 rfl [Value.int .i64 0, Value.int .i64 0, Value.slice none 0 0, Value.int .i64 0, Value.int .i64 0] _ (unhide HDR) Tryz.underlying103 rfl (unhide HSL) ?_
  still_step
  refine wpStill_nil ?_
  clear D0 D1
  have HB5 := hide ((unhide HB4).setCells_other g (f * 5) [Value.int .i64 0, Value.int .i64 0, Value.slice none 0 0, Value.int .i64 0, Value.int .i64 0] hvg)
  have HG5 := hide ((unhide HG4).setCells [Value.int .i64 0, Value.int .i64 0, Value.slice none 0 0, Value.int .i64 0, Value.int .i64 0] (f * 5))
  have HE5 := hide ((unhide HE4).setCells_other g (f * 5) [Value.int .i64 0, Value.int .i64 0, Value.slice none 0 0, Value.int .i64 0, Value.int .i64 0] (by omega))
  have HL5 := hide ((unhide HL4).setCells_other g (f * 5) [Value.int .i64 0, Value.int .i64 0, Value.slice none 0 0, Value.int .i64 0, Value.int .i64 0] (by omega))
  have HC5 := hide ((unhide HC4).setCells g (f * 5) [Value.int .i64 0, Value.int .i64 0, Value.slice none 0 0, Value.int .i64 0, Value.int .i64 0] (Or.inl (Or.inr rfl)))
  refine wpList_store_mid rfl 103 _ _ rfl g (f * 5) #[Value.int .i64 0, Value.int .i64 0, Value.slice none 0 0, Value.int .i64 0, Value.int .i64 0] rfl rfl (unhide HDT) (unhide HSZ) zOneS ?_
  generalize w4.setCells g (f * 5) [Value.int .i64 0, Value.int .i64 0, Value.slice none 0 0, Value.int .i64 0, Value.int .i64 0] = w5 at *
  clear HB4 HG4 HE4 HL4 HZ4 HC4 HDR HDT
  go_wp2_with fail
  have hn' : (n : Int) ≤ 1000000 := by omega
  have hn0 : ¬ n = 0 := by omega
  have hn1 : (0 : Int) < (n : Int) := by omega
  refine region_tail 14 (by kernel_rfl) (by kernel_rfl) ?_
  rintro w6 hw6
  have HB6 : Hid (Blk w6 vb cs t0) := by rw [hw6]; exact unhide HB5
  have HG6 : Hid (Blk w6 g (lay gs (f * 5) [Value.int .i64 0, Value.int .i64 0, Value.slice none 0 0, Value.int .i64 0, Value.int .i64 0]) 103) := by rw [hw6]; exact unhide HG5
  have HE6 : Hid (Blk w6 w.heap.size #[Value.int .i64 0, Value.int .i64 0, Value.slice none 0 0, Value.int .i64 0, Value.int .i64 0] 103) := by rw [hw6]; exact unhide HE5
  have HL6 : Hid (Blk w6 w2.heap.size x.toArray 103) := by rw [hw6]; exact unhide HL5
  have HC6 : Hid (Chg (fun b => b = vb ∨ b = g) w w6) := by rw [hw6]; exact (unhide HC5).drew
  have D0 : w6.cell? ⟨vb, o, none⟩ = some (.slice (some ⟨g, 0, none⟩) n n) := by rw [(unhide HB6).cell, unhide H0, unhide HPL]
  have D1 : w6.cell? ⟨vb, o + 1, none⟩ = some (.int .i64 (f : Int)) := by rw [(unhide HB6).cell, unhide H1]
  have D2 : w6.cell? ⟨vb, o + 2, none⟩ = some (.int .i64 ((r.length : Int) + 1)) := by rw [(unhide HB6).cell, unhide H2]; rfl
  have F1 := (unhide HB6).free (o + 1)
  have F2 := (unhide HB6).free (o + 2)
  clear hw6 HB5 HG5 HE5 HL5 HC5
  simp only [List.take_succ_cons, List.take_zero, List.drop_succ_cons, List.drop_zero]
  repeat (refine wpStill_step (fun K hK => ?_); go_simp; (try go_ints); refine hK _ ?_; clear hK K)
  refine wpStill_nil ?_
  have hem : ((f : Int) + 1) % (n : Int) = (((f + 1) % n : Nat) : Int) := by push_cast; rfl
  have HB7 : Hid (Blk ((w6.setCell ⟨vb, o + 1, none⟩ (.int .i64 (((f : Int) + 1) % (n : Int)))).setCell ⟨vb, o + 2, none⟩ (.int .i64 (r.length : Int))) vb ((cs.setIfInBounds (o + 1) (.int .i64 (((f + 1) % n : Nat) : Int))).setIfInBounds (o + 2) (.int .i64 (r.length : Int))) t0) := by
    rw [hem]
    exact ((unhide HB6).set _ _).set _ _
  have HG7 : Hid (Blk ((w6.setCell ⟨vb, o + 1, none⟩ (.int .i64 (((f : Int) + 1) % (n : Int)))).setCell ⟨vb, o + 2, none⟩ (.int .i64 (r.length : Int))) g (lay gs (f * 5) [Value.int .i64 0, Value.int .i64 0, Value.slice none 0 0, Value.int .i64 0, Value.int .i64 0]) 103) := ((unhide HG6).other _ _ (fun e => hvg e.symm)).other _ _ (fun e => hvg e.symm)
  have HE7 : Hid (Blk ((w6.setCell ⟨vb, o + 1, none⟩ (.int .i64 (((f : Int) + 1) % (n : Int)))).setCell ⟨vb, o + 2, none⟩ (.int .i64 (r.length : Int))) w.heap.size #[Value.int .i64 0, Value.int .i64 0, Value.slice none 0 0, Value.int .i64 0, Value.int .i64 0] 103) := ((unhide HE6).other _ _ (by show w.heap.size ≠ vb; omega)).other _ _ (by show w.heap.size ≠ vb; omega)
  have HL7 : Hid (Blk ((w6.setCell ⟨vb, o + 1, none⟩ (.int .i64 (((f : Int) + 1) % (n : Int)))).setCell ⟨vb, o + 2, none⟩ (.int .i64 (r.length : Int))) w2.heap.size x.toArray 103) := ((unhide HL6).other _ _ (by show w2.heap.size ≠ vb; omega)).other _ _ (by show w2.heap.size ≠ vb; omega)
  have HC7 : Hid (Chg (fun b => b = vb ∨ b = g) w ((w6.setCell ⟨vb, o + 1, none⟩ (.int .i64 (((f : Int) + 1) % (n : Int)))).setCell ⟨vb, o + 2, none⟩ (.int .i64 (r.length : Int)))) := ((unhide HC6).setCell _ _ (Or.inl (Or.inl rfl))).setCell _ _ (Or.inl (Or.inl rfl))
  have HRL : Hid (((w6.setCell ⟨vb, o + 1, none⟩ (.int .i64 (((f : Int) + 1) % (n : Int)))).setCell ⟨vb, o + 2, none⟩ (.int .i64 (r.length : Int))).rangeAt w2.heap.size 0 x) := (unhide HL7).range 0 x (fun j v hj => by simpa using hj)
  have HTE : Hid (((w6.setCell ⟨vb, o + 1, none⟩ (.int .i64 (((f : Int) + 1) % (n : Int)))).setCell ⟨vb, o + 2, none⟩ (.int .i64 (r.length : Int))).there w.heap.size 0 x.toArray.size) := by rw [show x.toArray.size = 5 from unhide HX]; exact (unhide HE7).there 0 5 (by simp)
  clear hem HB6 HG6 HE6 HL6 HC6
  go_wp2_with (first | (show wpList _ _ _ (Oper.mk (some 46) _ _ _ _ _ :: _) _ _; refine wpList_load_mid rfl 103 _ rfl w2.heap.size 0 rfl x _ (unhide HRL) Tryz.underlying103 rfl (unhide HSX) ?_) | (show wpList _ _ _ (Oper.mk none (Op.store 103 (Operand.tmp 2) _) _ _ _ _ :: _) _ _; refine wpList_store_mid rfl 103 _ _ rfl w.heap.size 0 x.toArray rfl rfl (unhide HTE) (unhide HSX) (unhide HOX) ?_))
  generalize (w6.setCell ⟨vb, o + 1, none⟩ (.int .i64 (((f : Int) + 1) % (n : Int)))).setCell ⟨vb, o + 2, none⟩ (.int .i64 (r.length : Int)) = w7 at *
  refine bodyPost_ret (results_cell_tmp Tryz.results112 _ _ w.heap.size 103 x.toArray (0, 0) _ rfl ((unhide HE7).whole x (by rw [unhide HX]; rfl)) Tryz.underlying103 rfl (unhide HSX)) rfl ⟨rfl, ?_, ?_, ?_⟩
  · exact (unhide HB7).setCells_other _ _ _ (by omega)
  · exact (unhide HR).took (unhide HGS) (unhide HGZ) ((unhide HG7).setCells_other w.heap.size 0 x (by omega)) (by rfl)
  · exact (unhide HC7).setCells _ _ _ (Or.inr (Nat.le_refl _))

theorem elFullS : (Tryz.prog.info? 103).map (fun i => (i.zero, i.size, i.bytes)) = some (some (.agg #[Value.int .i64 0, Value.int .i64 0, Value.slice none 0 0, Value.int .i64 0, Value.int .i64 0]), 5, 56) := by kernel_rfl
theorem madeS (m : Nat) (hm : m ≤ 1000001) (w : World) : (Instr.makeSlice 99 (.int .i64 (m : Int)) (.int .i64 (m : Int))).run Tryz.prog w = .ok (.slice (some ⟨w.heap.size, 0, none⟩) m m) (w.alloc (.cells (madeCells #[Value.int .i64 0, Value.int .i64 0, Value.slice none 0 0, Value.int .i64 0, Value.int .i64 0] (m * 5)) 103)) := by
  obtain ⟨i, hi, hzz⟩ := Option.map_eq_some_iff.1 elFullS
  simp only [Prod.mk.injEq] at hzz
  obtain ⟨hz, hs, hb⟩ := hzz
  have hr := run_make (P := Tryz.prog) w 99 103 i (.agg #[Value.int .i64 0, Value.int .i64 0, Value.slice none 0 0, Value.int .i64 0, Value.int .i64 0]) Tryz.underlying99 hi hz .i64 .i64 m m (by omega) (Int.le_refl _) (by rw [hb]; omega) (by omega)
  rw [hs] at hr
  exact hr

set_option maxRecDepth 100000 in
set_option maxHeartbeats 2000000 in
theorem growS_any (vb o : Nat) (cs : Array Value) (t0 : TypeId) (g n f : Nat) (xs : List (List Value)) (w : World) (hb : Blk w vb cs t0)
    (h0 : cs[o]? = some (plV g n)) (h1 : cs[o + 1]? = some (.int .i64 (f : Int))) (h2 : cs[o + 2]? = some (.int .i64 (xs.length : Int))) (hr : RingB w 103 5 g n f xs) (hn : n ≤ 400000) :
    Calls Tryz.prog 138 #[.pointer (some ⟨vb, o, none⟩)] w fun e w' => e = .returned (.tuple #[]) ∧
      Blk w' vb ((cs.setIfInBounds o (plV w.heap.size (2 * xs.length + 1))).setIfInBounds (o + 1) (.int .i64 0)) t0 ∧ RingB w' 103 5 w.heap.size (2 * xs.length + 1) 0 xs ∧ Chg (fun b => b = vb) w w' := by
  have hl := hr.len
  have hvl := hb.lt
  have hmk := madeS (2 * xs.length + 1) (by omega)
  have e1 : ((2 * xs.length + 1 : Nat) : Int) = 2 * (xs.length : Int) + 1 := by push_cast; rfl
  rw [e1] at hmk
  have c2 := hb.cell (o + 2)
  rw [h2] at c2
  have hli : (xs.length : Int) ≤ 400000 := by omega
  have HR := hide hr
  have H0 := hide h0
  have H1 := hide h1
  have H2 := hide h2
  have HB := hide hb
  have HB1 := hide (hb.alloc (.cells (madeCells #[Value.int .i64 0, Value.int .i64 0, Value.slice none 0 0, Value.int .i64 0, Value.int .i64 0] ((2 * xs.length + 1) * 5)) 103))
  have HN1 := hide (Blk.new w (madeCells #[Value.int .i64 0, Value.int .i64 0, Value.slice none 0 0, Value.int .i64 0, Value.int .i64 0] ((2 * xs.length + 1) * 5)) 103)
  have HW1 := hide ((Below.refl w.heap.size w).alloc (Nat.le_refl _) (.cells (madeCells #[Value.int .i64 0, Value.int .i64 0, Value.slice none 0 0, Value.int .i64 0, Value.int .i64 0] ((2 * xs.length + 1) * 5)) 103))
  clear hr h0 h1 h2 hb
  go_enter Tryz.func138, Tryz.ntmps138
  go_wp2
  go_loopw [15] (fun iv wr => ∃ i : Nat, i ≤ xs.length ∧ iv = .int .i64 (i : Int) ∧ Below w.heap.size w wr ∧ ∃ cur : Array Value, Blk wr w.heap.size cur 103 ∧ cur.size = (2 * xs.length + 1) * 5 ∧ ∀ j x, j < i → xs[j]? = some x → ∀ q v, x[q]? = some v → cur[j * 5 + q]? = some v) (fun i _ => xs.length - (intOf i).toNat)
  case atStart => exact ⟨0, Nat.zero_le _, rfl, unhide HW1, _, unhide HN1, by rw [size_madeCells], fun j x hj => by omega⟩
  case round =>
    obtain ⟨i, hi, rfl, hbw, cur, hcur, hsz, hfl⟩ := hrel
    have HBW := hide hbw
    have HCU := hide hcur
    have HSZ := hide hsz
    have HFL := hide hfl
    clear HB1 HN1 HW1 c2 hcur hsz hfl
    rcases Nat.lt_or_ge i xs.length with hlt | hge
    · obtain ⟨x, hxi⟩ : ∃ x, xs[i]? = some x := ⟨xs[i], List.getElem?_eq_getElem hlt⟩
      have hf : f < n := by rcases (unhide HR).fst with h | ⟨h, _⟩ <;> omega
      have hx := ((unhide HR).each x (List.mem_of_getElem? hxi)).1
      have hox := all_oneCell_toArray ((unhide HR).each x (List.mem_of_getElem? hxi)).2
      have hszx : (Tryz.prog.info? 103).map (·.size) = some x.toArray.size := by rw [List.size_toArray, hx]; exact elInfoS
      obtain ⟨p, hp⟩ : ∃ p, (f + i) % n = p := ⟨_, rfl⟩
      have hpl : p < n := by rw [← hp]; exact Nat.mod_lt _ (by omega)
      have hpe : ((f : Int) + (i : Int)) % (n : Int) = (p : Int) := by rw [← hp]; push_cast; rfl
      have hel := (unhide HR).el i x hxi
      rw [hp] at hel
      obtain ⟨gs, hgs, _⟩ := (unhide HR).blk (by omega)
      have HRG : Hid (wr.rangeAt g (p * 5) x) := fun j v hj => (hbw.cell (by exact hgs.lt)).trans (hel j v hj)
      have HPL := hide (show plV g n = .slice (some ⟨g, 0, none⟩) n n from if_neg (by omega))
      have hik : i * 5 + 5 ≤ cur.size := by rw [unhide HSZ]; have := Nat.mul_le_mul_right 5 (show i + 1 ≤ 2 * xs.length + 1 by omega); omega
      have HTH : Hid (wr.there w.heap.size (i * 5) x.toArray.size) := by rw [show x.toArray.size = 5 from hx]; exact (unhide HCU).there _ _ hik
      have HXI := hide hxi
      have HX := hide hx
      have HOX := hide hox
      have HSX := hide hszx
      have HIK := hide hik
      have hi0 : (0 : Int) ≤ (i : Int) := by omega
      have hi1 : (i : Int) < (xs.length : Int) := by omega
      have hi2 : (i : Int) < 2 * (xs.length : Int) + 1 := by omega
      have hf0 : (0 : Int) ≤ (f : Int) := by omega
      have hf1 : (f : Int) < (n : Int) := by omega
      have hn1 : (n : Int) ≤ 400000 := by omega
      have hn0 : ¬ n = 0 := by omega
      have hp0 : (0 : Int) ≤ (p : Int) := by omega
      have hp1 : (p : Int) < (n : Int) := by omega
      clear hp hel hgs hbw hox hszx hik hx hxi
      go_wp2_with fail
      refine region_tail 21 (by kernel_rfl) (by kernel_rfl) ?_
      rintro w4 hw4
      have HBW4 : Hid (Below w.heap.size w w4) := by rw [hw4]; exact (unhide HBW).drew
      have HCU4 : Hid (Blk w4 w.heap.size cur 103) := by rw [hw4]; exact unhide HCU
      have HRG4 : Hid (w4.rangeAt g (p * 5) x) := by rw [hw4]; exact unhide HRG
      have HTH4 : Hid (w4.there w.heap.size (i * 5) x.toArray.size) := by rw [hw4]; exact unhide HTH
      have D0 : w4.cell? ⟨vb, o, none⟩ = some (.slice (some ⟨g, 0, none⟩) n n) := by rw [(unhide HBW4).cell (by exact hvl), (unhide HB).cell, unhide H0, unhide HPL]
      have D1 : w4.cell? ⟨vb, o + 1, none⟩ = some (.int .i64 (f : Int)) := by rw [(unhide HBW4).cell (by exact hvl), (unhide HB).cell, unhide H1]
      clear hw4 HBW HCU HRG HTH
      simp only [List.take_succ_cons, List.take_zero, List.drop_succ_cons, List.drop_zero]
      repeat (refine wpStill_step (fun K hK => ?_); go_simp; (try go_ints); refine hK _ ?_; clear hK K)
      refine still_load_mid rfl 103 _ rfl g (p * 5) rfl x _ (unhide HRG4) Tryz.underlying103 rfl (unhide HSX) ?_
      repeat (refine wpStill_step (fun K hK => ?_); go_simp; (try go_ints); refine hK _ ?_; clear hK K)
      refine wpStill_nil ?_
      refine wpList_store_mid rfl 103 _ _ rfl w.heap.size (i * 5) x.toArray rfl rfl (unhide HTH4) (unhide HSX) (unhide HOX) ?_
      have HBW5 := hide (below_setCells (unhide HBW4) w.heap.size (i * 5) x (Nat.le_refl _))
      have HCU5 := hide ((unhide HCU4).setCells x (i * 5))
      have HFL5 : Hid (∀ j y, j < i + 1 → xs[j]? = some y → ∀ q v, y[q]? = some v → (lay cur (i * 5) x)[j * 5 + q]? = some v) := fun j y hj hy q v hv => by
        have hyk := ((unhide HR).each y (List.mem_of_getElem? hy)).1
        have hq : q < 5 := by have := (List.getElem?_eq_some_iff.1 hv).1; omega
        have hjs : j * 5 + 5 ≤ cur.size := by rw [unhide HSZ]; have := Nat.mul_le_mul_right 5 (show j + 1 ≤ 2 * xs.length + 1 by omega); omega
        rw [lay_at _ _ _ _ (by omega), unhide HX]
        rcases Nat.lt_or_ge j i with h | h
        · rw [if_neg (by have := Nat.mul_le_mul_right 5 (show j + 1 ≤ i by omega); omega)]
          exact unhide HFL j y h hy q v hv
        · obtain rfl : j = i := by omega
          rw [unhide HXI] at hy
          obtain rfl := Option.some.inj hy
          rw [if_pos (by omega), show j * 5 + q - j * 5 = q by omega]
          exact hv
      have HSZ5 : Hid ((lay cur (i * 5) x).size = (2 * xs.length + 1) * 5) := by rw [lay_size]; exact unhide HSZ
      generalize w4.setCells w.heap.size (i * 5) x = w5 at *
      clear D0 D1 HBW4 HCU4 HRG4 HTH4 HXI HX HOX HSX HIK hpe
      generalize lay cur (i * 5) x = cur5 at *
      go_wp2
      go_roundw
      case rel => exact ⟨i + 1, by omega, by go_num, unhide HBW5, cur5, unhide HCU5, unhide HSZ5, unhide HFL5⟩
      case measure => simp [intOf]; omega
    · obtain rfl : i = xs.length := by omega
      have c0 : wr.cell? ⟨vb, o, none⟩ = some (plV g n) := by rw [hbw.cell (by exact hvl), (unhide HB).cell, unhide H0]
      have c1 : wr.cell? ⟨vb, o + 1, none⟩ = some (.int .i64 (f : Int)) := by rw [hbw.cell (by exact hvl), (unhide HB).cell, unhide H1]
      have HBr := hide ((unhide HB).below hbw hvl)
      have f0 := (unhide HBr).free o
      have f1 := (unhide HBr).free (o + 1)
      clear hbw
      generalize plV g n = old at *
      go_wp2
      refine bodyPost_end (results_none rfl _ _ _) rfl ⟨rfl, ?_, ?_, ?_⟩
      · rw [show plV w.heap.size (2 * xs.length + 1) = .slice (some ⟨w.heap.size, 0, none⟩) (2 * xs.length + 1) (2 * xs.length + 1) from if_neg (by omega)]
        exact ((unhide HBr).set _ _).set _ _
      · have hcu := ((unhide HCU).other ⟨vb, o, none⟩ (.slice (some ⟨w.heap.size, 0, none⟩) (2 * xs.length + 1) (2 * xs.length + 1)) (by show w.heap.size ≠ vb; omega)).other ⟨vb, o + 1, none⟩ (.int .i64 0) (by show w.heap.size ≠ vb; omega)
        refine ⟨by omega, Or.inl (by omega), fun _ => ⟨cur, hcu, unhide HSZ⟩, fun j x hj q v hv => ?_, (unhide HR).each⟩
        have hj' : j < xs.length := (List.getElem?_eq_some_iff.1 hj).1
        rw [hcu.cell, Nat.zero_add, Nat.mod_eq_of_lt (by omega)]
        exact unhide HFL j x hj' hj q v hv
      · exact ((Chg.of_new (X := fun b => b = vb) (unhide HBW)).setCell _ _ (Or.inl rfl)).setCell _ _ (Or.inl rfl)

theorem lenS_any (vb o : Nat) (c : Int) (w : World) (hc : w.cell? ⟨vb, o + 2, none⟩ = some (.int .i64 c)) :
    Calls Tryz.prog 111 #[.pointer (some ⟨vb, o, none⟩)] w fun e w' => e = .returned (.int .i64 c) ∧ w' = w := by
  go_enter Tryz.func111, Tryz.ntmps111
  go_wp2
  go_ret
  exact ⟨rfl, rfl⟩

set_option maxRecDepth 100000 in
set_option maxHeartbeats 4000000 in
theorem putS_any (vb o : Nat) (cs : Array Value) (t0 : TypeId) (g n f : Nat) (xs : List (List Value)) (x : List Value) (w : World) (hb : Blk w vb cs t0)
    (h0 : cs[o]? = some (plV g n)) (h1 : cs[o + 1]? = some (.int .i64 (f : Int))) (h2 : cs[o + 2]? = some (.int .i64 (xs.length : Int))) (hr : RingB w 103 5 g n f xs) (hn : n ≤ 400000) (hvg : vb ≠ g) (hx : x.length = 5 ∧ ∀ v ∈ x, v.oneCell' = true) :
    Calls Tryz.prog 135 #[.pointer (some ⟨vb, o, none⟩), .agg x.toArray] w fun e w' => e = .returned (.tuple #[]) ∧ ∃ g' n' f' : Nat,
      Blk w' vb (upd3 cs o (plV g' n') (.int .i64 (f' : Int)) (.int .i64 ((xs.length : Int) + 1))) t0 ∧ RingB w' 103 5 g' n' f' (xs ++ [x]) ∧ vb ≠ g' ∧ ((xs.length < n ∧ g' = g ∧ n' = n) ∨ (xs.length = n ∧ w.heap.size ≤ g' ∧ n' = 2 * xs.length + 1)) ∧ Chg (fun b => b = vb ∨ b = g) w w' := by
  have hl := hr.len
  have hvl := hb.lt
  have hszx : (Tryz.prog.info? 103).map (·.size) = some x.toArray.size := by rw [List.size_toArray, hx.1]; exact elInfoS
  have HX := hide hx
  have HOX := hide (all_oneCell_toArray hx.2)
  have HSX := hide hszx
  have HR := hide hr
  have H0 := hide h0
  have H1 := hide h1
  have H2 := hide h2
  have HB1 := hide (hb.alloc (.cells x.toArray 103))
  have HX1 := hide (Blk.new w x.toArray 103)
  have HC1 : Hid (Chg (fun b => b = vb ∨ b = g) w (w.alloc (.cells x.toArray 103))) := (Chg.refl _ _).alloc _
  have HR1 : Hid (RingB (w.alloc (.cells x.toArray 103)) 103 5 g n f xs) := hr.chg (X := fun _ => False) ((Chg.refl _ _).alloc _) id
  clear hr h0 h1 h2 hb hx hszx
  go_enter Tryz.func135, Tryz.ntmps135
  go_wp2_with fail
  have hsw : (w.alloc (.cells x.toArray 103)).heap.size = w.heap.size + 1 := by simp
  generalize w.alloc (.cells x.toArray 103) = w1 at *
  have ho := (Array.getElem?_eq_some_iff.1 (unhide H2)).1
  rcases Nat.lt_or_ge xs.length n with hln | hln
  · have hpv : plV g n = .slice (some ⟨g, 0, none⟩) n n := if_neg (by omega)
    have hne : ((xs.length : Int) == (n : Int)) = false := by simp; omega
    refine region_tail 9 (by kernel_rfl) (by kernel_rfl) ?_
    rintro w2 hw2
    have D0 : w2.cell? ⟨vb, o, none⟩ = some (.slice (some ⟨g, 0, none⟩) n n) := by rw [hw2]; show w1.cell? _ = _; rw [(unhide HB1).cell, unhide H0, hpv]
    have D2 : w2.cell? ⟨vb, o + 2, none⟩ = some (.int .i64 (xs.length : Int)) := by rw [hw2]; show w1.cell? _ = _; rw [(unhide HB1).cell, unhide H2]
    have hkey : ∃ (cs1 : Array Value) (g1 n1 f1 : Nat), Blk w2 vb cs1 t0 ∧ cs1[o]? = some (plV g1 n1) ∧ cs1[o + 1]? = some (.int .i64 (f1 : Int)) ∧ cs1[o + 2]? = some (.int .i64 (xs.length : Int)) ∧ upd3 cs o (plV g1 n1) (.int .i64 (f1 : Int)) (.int .i64 ((xs.length : Int) + 1)) = cs1.setIfInBounds (o + 2) (.int .i64 ((xs.length : Int) + 1)) ∧ RingB w2 103 5 g1 n1 f1 xs ∧ xs.length < n1 ∧ n1 ≤ 1000000 ∧ vb ≠ g1 ∧ ((xs.length < n ∧ g1 = g ∧ n1 = n) ∨ (xs.length = n ∧ w.heap.size ≤ g1 ∧ n1 = 2 * xs.length + 1)) ∧ Blk w2 w.heap.size x.toArray 103 ∧ Chg (fun b => b = vb ∨ b = g) w w2 := by
      rw [hw2]
      exact ⟨cs, g, n, f, unhide HB1, unhide H0, unhide H1, unhide H2, by unfold upd3; rw [set_same (unhide H0), set_same (unhide H1)], (unhide HR1).chg (X := fun _ => False) (Chg.refl _ _).drew id, hln, by omega, hvg, Or.inl ⟨hln, rfl, rfl⟩, unhide HX1, (unhide HC1).drew⟩
    have HKEY := hide hkey
    clear hkey hw2 hpv HB1 HX1 HC1 HR1
    simp only [List.take_succ_cons, List.take_zero, List.drop_succ_cons, List.drop_zero]
    repeat (refine wpStill_step (fun K hK => ?_); go_simp; (try go_ints); refine hK _ ?_; clear hK K)
    refine wpStill_nil ?_
    go_wp2_with fail
    have hkey := unhide HKEY
    clear HKEY D0 D2 hne
    obtain ⟨cs1, g1, n1, f1, hb1, k0, k1, k2, hcs, hr1, hlt, hn1, hvg1, hgn, hx1, hc1⟩ := hkey
    have hf1 : f1 < n1 := by rcases hr1.fst with h | ⟨h, _⟩ <;> omega
    obtain ⟨gs, hgs, hgz⟩ := hr1.blk (by omega)
    obtain ⟨p, hp⟩ : ∃ p, (f1 + xs.length) % n1 = p := ⟨_, rfl⟩
    have hpl : p < n1 := by rw [← hp]; exact Nat.mod_lt _ (by omega)
    have hpe : ((f1 : Int) + (xs.length : Int)) % (n1 : Int) = (p : Int) := by rw [← hp]; push_cast; rfl
    have hpk : p * 5 + 5 ≤ gs.size := by rw [hgz]; have := Nat.mul_le_mul_right 5 (show p + 1 ≤ n1 by omega); omega
    have HPL := hide (show plV g1 n1 = .slice (some ⟨g1, 0, none⟩) n1 n1 from if_neg (by omega))
    have hg1 : (g1 = vb ∨ g1 = g) ∨ w.heap.size ≤ g1 := by rcases hgn with ⟨_, h, _⟩ | ⟨_, h, _⟩; exact Or.inl (Or.inr h); exact Or.inr h
    have HB1 := hide hb1
    have HG1 := hide hgs
    have HX1 := hide hx1
    have HC1 := hide hc1
    have HR1 := hide hr1
    have K0 := hide k0
    have K1 := hide k1
    have K2 := hide k2
    have HCS := hide hcs
    have HGZ := hide hgz
    have HPK := hide hpk
    have HP := hide hp
    clear hb1 hgs hx1 hc1 hr1 k0 k1 k2 hcs hgz hpk hp
    have hp0 : (0 : Int) ≤ (p : Int) := by omega
    have hp1 : (p : Int) < (n1 : Int) := by omega
    have hf0 : (0 : Int) ≤ (f1 : Int) := by omega
    have hf1' : (f1 : Int) < (n1 : Int) := by omega
    have hn1' : (n1 : Int) ≤ 1000000 := by omega
    have hl0 : (xs.length : Int) ≤ (n1 : Int) := by omega
    have hn0 : ¬ n1 = 0 := by omega
    refine region_tail 21 (by kernel_rfl) (by kernel_rfl) ?_
    rintro w4 hw4
    have HB4 : Hid (Blk w4 vb cs1 t0) := by rw [hw4]; exact unhide HB1
    have HG4 : Hid (Blk w4 g1 gs 103) := by rw [hw4]; exact unhide HG1
    have HR4 : Hid (w4.rangeAt w.heap.size 0 x) := by rw [hw4]; exact (unhide HX1).range 0 x (fun j v hj => by simpa using hj)
    have HC4 : Hid (Chg (fun b => b = vb ∨ b = g) w w4) := by rw [hw4]; exact (unhide HC1).drew
    have HQ4 : Hid (RingB w4 103 5 g1 n1 f1 xs) := by rw [hw4]; exact (unhide HR1).chg (X := fun _ => False) (Chg.refl _ _).drew id
    have HT4 : Hid (w4.there g1 (p * 5) x.toArray.size) := by rw [show x.toArray.size = 5 from (unhide HX).1]; exact (unhide HG4).there _ _ (unhide HPK)
    have D0 : w4.cell? ⟨vb, o, none⟩ = some (.slice (some ⟨g1, 0, none⟩) n1 n1) := by rw [(unhide HB4).cell, unhide K0, unhide HPL]
    have D1 : w4.cell? ⟨vb, o + 1, none⟩ = some (.int .i64 (f1 : Int)) := by rw [(unhide HB4).cell, unhide K1]
    have D2 : w4.cell? ⟨vb, o + 2, none⟩ = some (.int .i64 (xs.length : Int)) := by rw [(unhide HB4).cell, unhide K2]
    clear hw4 HB1 HG1 HX1 HC1 HR1
    simp only [List.take_succ_cons, List.take_zero, List.drop_succ_cons, List.drop_zero]
    repeat (refine wpStill_step (fun K hK => ?_); go_simp; (try go_ints); refine hK _ ?_; clear hK K)
    refine still_load_mid rfl 103 _ rfl w.heap.size 0 rfl x _ (unhide HR4) Tryz.underlying103 rfl (unhide HSX) ?_
    repeat (refine wpStill_step (fun K hK => ?_); go_simp; (try go_ints); refine hK _ ?_; clear hK K)
    refine wpStill_nil ?_
    refine wpList_store_mid rfl 103 _ _ rfl g1 (p * 5) x.toArray rfl rfl (unhide HT4) (unhide HSX) (unhide HOX) ?_
    have HB5 := hide ((unhide HB4).setCells_other g1 (p * 5) x hvg1)
    have HG5 := hide ((unhide HG4).setCells x (p * 5))
    have HC5 := hide ((unhide HC4).setCells g1 (p * 5) x hg1)
    have E2 : (w4.setCells g1 (p * 5) x).cell? ⟨vb, o + 2, none⟩ = some (.int .i64 (xs.length : Int)) := by rw [(unhide HB5).cell, unhide K2]
    have F2 := (unhide HB5).free (o + 2)
    clear D0 D1 D2 HR4 HT4 HC4 HB4
    generalize w4.setCells g1 (p * 5) x = w5 at *
    go_wp2
    refine bodyPost_end (results_none rfl _ _ _) rfl ⟨rfl, g1, n1, f1, ?_, ?_, hvg1, hgn, ?_⟩
    · have h := (unhide HB5).set (o + 2) (.int .i64 ((xs.length : Int) + 1))
      rw [unhide HCS]
      exact h
    · refine (unhide HQ4).put (unhide HG4) (unhide HGZ) hlt (unhide HX) ?_
      rw [unhide HP]
      exact (unhide HG5).other _ _ (fun e => hvg1 e.symm)
    · exact (unhide HC5).setCell _ _ (Or.inl (Or.inl rfl))
  · have hxn : n = xs.length := by omega
    obtain ⟨pv, hpv, hpv'⟩ : ∃ pv : Option Addr, plV g n = .slice pv xs.length xs.length ∧ True := by
      unfold plV
      split
      · rename_i h; exact ⟨none, by rw [← hxn, h], trivial⟩
      · exact ⟨_, by rw [← hxn], trivial⟩
    refine region_tail 9 (by kernel_rfl) (by kernel_rfl) ?_
    rintro w2 hw2
    have D0 : w2.cell? ⟨vb, o, none⟩ = some (.slice pv xs.length xs.length) := by rw [hw2]; show w1.cell? _ = _; rw [(unhide HB1).cell, unhide H0, hpv]
    have D2 : w2.cell? ⟨vb, o + 2, none⟩ = some (.int .i64 (xs.length : Int)) := by rw [hw2]; show w1.cell? _ = _; rw [(unhide HB1).cell, unhide H2]
    have HB2 : Hid (Blk w2 vb cs t0) := by rw [hw2]; exact unhide HB1
    have HX2 : Hid (Blk w2 w.heap.size x.toArray 103) := by rw [hw2]; exact unhide HX1
    have HC2 : Hid (Chg (fun b => b = vb ∨ b = g) w w2) := by rw [hw2]; exact (unhide HC1).drew
    have HR2 : Hid (RingB w2 103 5 g n f xs) := by rw [hw2]; exact (unhide HR1).chg (X := fun _ => False) (Chg.refl _ _).drew id
    have hs2 : w2.heap.size = w.heap.size + 1 := by rw [hw2]; exact hsw
    clear hw2 hpv hpv' HB1 HX1 HC1 HR1
    simp only [List.take_succ_cons, List.take_zero, List.drop_succ_cons, List.drop_zero]
    repeat (refine wpStill_step (fun K hK => ?_); go_simp; (try go_ints); refine hK _ ?_; clear hK K)
    refine wpStill_nil ?_
    clear D0 D2
    go_wp2_with fail
    refine (growS_any vb o cs t0 g n f xs w2 (unhide HB2) (unhide H0) (unhide H1) (unhide H2) (unhide HR2) hn).mono ?_
    rintro e w3 ⟨rfl, hb3, hr3, hc3⟩
    have hs3 := hc3.size
    have hkey : ∃ (cs1 : Array Value) (g1 n1 f1 : Nat), Blk w3 vb cs1 t0 ∧ cs1[o]? = some (plV g1 n1) ∧ cs1[o + 1]? = some (.int .i64 (f1 : Int)) ∧ cs1[o + 2]? = some (.int .i64 (xs.length : Int)) ∧ upd3 cs o (plV g1 n1) (.int .i64 (f1 : Int)) (.int .i64 ((xs.length : Int) + 1)) = cs1.setIfInBounds (o + 2) (.int .i64 ((xs.length : Int) + 1)) ∧ RingB w3 103 5 g1 n1 f1 xs ∧ xs.length < n1 ∧ n1 ≤ 1000000 ∧ vb ≠ g1 ∧ ((xs.length < n ∧ g1 = g ∧ n1 = n) ∨ (xs.length = n ∧ w.heap.size ≤ g1 ∧ n1 = 2 * xs.length + 1)) ∧ Blk w3 w.heap.size x.toArray 103 ∧ Chg (fun b => b = vb ∨ b = g) w w3 :=
      ⟨_, w2.heap.size, 2 * xs.length + 1, 0, hb3, (set_ne (by omega)).trans (set_at (by omega)), set_at (by rw [Array.size_setIfInBounds]; omega), (set_ne (by omega)).trans ((set_ne (by omega)).trans (unhide H2)), rfl, hr3, by omega, by omega, by omega, Or.inr ⟨hxn.symm, by omega, rfl⟩, (unhide HX2).chg hc3 (by omega), (unhide HC2).trans hc3 (fun k h => Or.inl (Or.inl h))⟩
    have HKEY := hide hkey
    clear hkey hb3 hr3 hc3 HB2 HX2 HC2 HR2
    go_wp2_with fail
    have hkey := unhide HKEY
    clear HKEY
    obtain ⟨cs1, g1, n1, f1, hb1, k0, k1, k2, hcs, hr1, hlt, hn1, hvg1, hgn, hx1, hc1⟩ := hkey
    have hf1 : f1 < n1 := by rcases hr1.fst with h | ⟨h, _⟩ <;> omega
    obtain ⟨gs, hgs, hgz⟩ := hr1.blk (by omega)
    obtain ⟨p, hp⟩ : ∃ p, (f1 + xs.length) % n1 = p := ⟨_, rfl⟩
    have hpl : p < n1 := by rw [← hp]; exact Nat.mod_lt _ (by omega)
    have hpe : ((f1 : Int) + (xs.length : Int)) % (n1 : Int) = (p : Int) := by rw [← hp]; push_cast; rfl
    have hpk : p * 5 + 5 ≤ gs.size := by rw [hgz]; have := Nat.mul_le_mul_right 5 (show p + 1 ≤ n1 by omega); omega
    have HPL := hide (show plV g1 n1 = .slice (some ⟨g1, 0, none⟩) n1 n1 from if_neg (by omega))
    have hg1 : (g1 = vb ∨ g1 = g) ∨ w.heap.size ≤ g1 := by rcases hgn with ⟨_, h, _⟩ | ⟨_, h, _⟩; exact Or.inl (Or.inr h); exact Or.inr h
    have HB1 := hide hb1
    have HG1 := hide hgs
    have HX1 := hide hx1
    have HC1 := hide hc1
    have HR1 := hide hr1
    have K0 := hide k0
    have K1 := hide k1
    have K2 := hide k2
    have HCS := hide hcs
    have HGZ := hide hgz
    have HPK := hide hpk
    have HP := hide hp
    clear hb1 hgs hx1 hc1 hr1 k0 k1 k2 hcs hgz hpk hp
    have hp0 : (0 : Int) ≤ (p : Int) := by omega
    have hp1 : (p : Int) < (n1 : Int) := by omega
    have hf0 : (0 : Int) ≤ (f1 : Int) := by omega
    have hf1' : (f1 : Int) < (n1 : Int) := by omega
    have hn1' : (n1 : Int) ≤ 1000000 := by omega
    have hl0 : (xs.length : Int) ≤ (n1 : Int) := by omega
    have hn0 : ¬ n1 = 0 := by omega
    refine region_tail 21 (by kernel_rfl) (by kernel_rfl) ?_
    rintro w4 hw4
    have HB4 : Hid (Blk w4 vb cs1 t0) := by rw [hw4]; exact unhide HB1
    have HG4 : Hid (Blk w4 g1 gs 103) := by rw [hw4]; exact unhide HG1
    have HR4 : Hid (w4.rangeAt w.heap.size 0 x) := by rw [hw4]; exact (unhide HX1).range 0 x (fun j v hj => by simpa using hj)
    have HC4 : Hid (Chg (fun b => b = vb ∨ b = g) w w4) := by rw [hw4]; exact (unhide HC1).drew
    have HQ4 : Hid (RingB w4 103 5 g1 n1 f1 xs) := by rw [hw4]; exact (unhide HR1).chg (X := fun _ => False) (Chg.refl _ _).drew id
    have HT4 : Hid (w4.there g1 (p * 5) x.toArray.size) := by rw [show x.toArray.size = 5 from (unhide HX).1]; exact (unhide HG4).there _ _ (unhide HPK)
    have D0 : w4.cell? ⟨vb, o, none⟩ = some (.slice (some ⟨g1, 0, none⟩) n1 n1) := by rw [(unhide HB4).cell, unhide K0, unhide HPL]
    have D1 : w4.cell? ⟨vb, o + 1, none⟩ = some (.int .i64 (f1 : Int)) := by rw [(unhide HB4).cell, unhide K1]
    have D2 : w4.cell? ⟨vb, o + 2, none⟩ = some (.int .i64 (xs.length : Int)) := by rw [(unhide HB4).cell, unhide K2]
    clear hw4 HB1 HG1 HX1 HC1 HR1
    simp only [List.take_succ_cons, List.take_zero, List.drop_succ_cons, List.drop_zero]
    repeat (refine wpStill_step (fun K hK => ?_); go_simp; (try go_ints); refine hK _ ?_; clear hK K)
    refine still_load_mid rfl 103 _ rfl w.heap.size 0 rfl x _ (unhide HR4) Tryz.underlying103 rfl (unhide HSX) ?_
    repeat (refine wpStill_step (fun K hK => ?_); go_simp; (try go_ints); refine hK _ ?_; clear hK K)
    refine wpStill_nil ?_
    refine wpList_store_mid rfl 103 _ _ rfl g1 (p * 5) x.toArray rfl rfl (unhide HT4) (unhide HSX) (unhide HOX) ?_
    have HB5 := hide ((unhide HB4).setCells_other g1 (p * 5) x hvg1)
    have HG5 := hide ((unhide HG4).setCells x (p * 5))
    have HC5 := hide ((unhide HC4).setCells g1 (p * 5) x hg1)
    have E2 : (w4.setCells g1 (p * 5) x).cell? ⟨vb, o + 2, none⟩ = some (.int .i64 (xs.length : Int)) := by rw [(unhide HB5).cell, unhide K2]
    have F2 := (unhide HB5).free (o + 2)
    clear D0 D1 D2 HR4 HT4 HC4 HB4
    generalize w4.setCells g1 (p * 5) x = w5 at *
    go_wp2
    refine bodyPost_end (results_none rfl _ _ _) rfl ⟨rfl, g1, n1, f1, ?_, ?_, hvg1, hgn, ?_⟩
    · have h := (unhide HB5).set (o + 2) (.int .i64 ((xs.length : Int) + 1))
      rw [unhide HCS]
      exact h
    · refine (unhide HQ4).put (unhide HG4) (unhide HGZ) hlt (unhide HX) ?_
      rw [unhide HP]
      exact (unhide HG5).other _ _ (fun e => hvg1 e.symm)
    · exact (unhide HC5).setCell _ _ (Or.inl (Or.inl rfl))

end Go.Proofs.YtdcinlkkjbclmaaGreat
