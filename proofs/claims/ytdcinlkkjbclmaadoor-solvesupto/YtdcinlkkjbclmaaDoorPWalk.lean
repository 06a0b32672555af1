/- The walk of Parities. -/
import Derived.Test.YtdcinlkkjbclmaaDoorLScript
namespace Go.Proofs.YtdcinlkkjbclmaaDoor
open Go.RowKit

theorem own_moved {X : Nat → Prop} {w w' : World} {base lo : Nat} {g c : Nat} {xs : List Nat} (h : w.ownsRow base 5 1 (.slice (some ⟨g, 0, none⟩) 16 c) 16 (xs.map B)) (hc : Chg X w w') (hx : ¬ X g) (hlo : lo ≤ base) : w'.ownsRow lo 5 1 (.slice (some ⟨g, 0, none⟩) 16 c) 16 (xs.map B) :=
  ownsRow_base_le (ownsRow_chg h hc (fun g' hg' => (by
    obtain rfl : g = g' := by simpa [Value.ownBlock] using hg'
    exact hx))) hlo
theorem own_conv {w : World} {base g c : Nat} {xs : List Nat} (hx : IsCol xs) (h : w.ownsRow base 5 1 (.slice (some ⟨g, 0, none⟩) 16 c) 16 (xs.map B)) : (convert 31 9 (.slice (some ⟨g, 0, none⟩) 16 c)).run Tryd.prog w = .ok (.string (strOf xs)) w :=
  conv_str (buf_own (base := base) (cap := c) (by rw [hx.len]; exact h)) hx
theorem buf_chg {X : Nat → Prop} {w w' : World} {g : Nat} {xs : List Nat} (h : Buf w g xs) (hc : Chg X w w') (hx : ¬ X g) (hg : g < w.heap.size) : Buf w' g xs :=
  ⟨fun j u hj => (World.cell?_of_block (w := w) (a := ⟨g, 0 + j, none⟩) (hc.block g hg hx)).trans (h.lies j u hj), fun j hj => by
    rw [World.cell?_of_block (w := w) (a := ⟨g, 0 + j, none⟩) (hc.block g hg hx), World.frozen?_of_block (w := w) (a := ⟨g, 0 + j, none⟩) (hc.block g hg hx)]
    exact h.free j hj⟩
theorem book_new (w : World) (U : Nat → Value) (Ln : Nat → Nat) : Book (w.alloc (.cells #[.slice none 0 0, .slice none 0 0, .int .i64 0] 27)) (w.alloc (.cells #[.slice none 0 0, .slice none 0 0, .int .i64 0] 27)).heap.size w.heap.size w.heap.size 0 (.slice none 0 0) (.slice none 0 0) U Ln :=
  ⟨World.rowIs_alloc w #[.slice none 0 0, .slice none 0 0, .int .i64 0] 27 _ (fun i hi => by
    simp at hi
    rcases (show i = 0 ∨ i = 1 ∨ i = 2 by omega) with rfl | rfl | rfl <;> rfl), World.ownsRow_nil _ _ _ _, World.ownsRow_nil _ _ _ _, fun i hi => (by omega), Nat.le_refl _, (by simp), fun g hg => (by cases hg), fun g hg => (by cases hg), fun i hi => (by omega), fun i hi => (by omega)⟩

theorem ownsRow_block {w w' : World} {base : Nat} {e : TypeId} {size : Nat} {v : Value} {n : Nat} {xs : List Value} (h : w.ownsRow base e size v n xs) (hb : ∀ g, v.ownBlock = some g → w'.heap[g]? = w.heap[g]?) : w'.ownsRow base e size v n xs := by
  obtain ⟨h1, h2⟩ := h
  refine ⟨h1, ?_⟩
  rcases h2 with h2 | ⟨g, cap, cur, rfl, hg, hh, r⟩
  · exact Or.inl h2
  · exact Or.inr ⟨g, cap, cur, rfl, hg, (hb g rfl).trans hh, r⟩

set_option maxRecDepth 100000 in
set_option maxHeartbeats 8000000 in
theorem parities_any (v : Value) (cs : List ColI) (w : World) (hv : SlC w v cs) (hl : cs.length ≤ 1048576) (hok : ∀ c ∈ cs, ColOK c) (ht : Tabs w) :
    Calls Tryd.prog 3 #[v] w fun e w' => e = .returned (.bool true) ∧ Below w.heap.size w w' := by
  have hs2 := ht.size
  obtain ⟨a, cap, hve, _⟩ := id hv
  subst hve
  have HV := hide hv
  have HOK := hide hok
  have HT := hide ht
  clear hv hok ht
  go_enter Tryd.func3, Tryd.ntmps3
  go_wp2
  have HBN := hide (book_new w (fun _ => .slice none 0 0) (fun _ => 0))
  go_loopw [4] (fun iv wr => ∃ (i : Nat) (bs ks : Value) (U : Nat → Value) (Ln : Nat → Nat), i ≤ cs.length ∧ iv = .int .i64 (i : Int) ∧ Book wr wr.heap.size w.heap.size w.heap.size (2 * i) bs ks U Ln ∧ Below w.heap.size w wr) (fun i _ => cs.length - (intOf i).toNat)
  case atStart => exact ⟨0, _, _, _, _, Nat.zero_le _, rfl, unhide HBN, (Below.refl _ _).alloc (Nat.le_refl _) _⟩
  case round =>
    clear HBN
    obtain ⟨i, bs, ks, U, Ln, hi, rfl, hbk, hbw⟩ := hrel
    have HBK := hide hbk
    have HB := hide hbw
    clear hbk
    rcases Nat.lt_or_ge i cs.length with hlt | hge
    · obtain ⟨c, hci⟩ : ∃ c, cs[i]? = some c := ⟨cs[i], List.getElem?_eq_getElem hlt⟩
      have hco := unhide HOK c (List.mem_of_getElem? hci)
      obtain ⟨a', cap', hve, hd⟩ := (unhide HV).below hbw
      simp only [Value.slice.injEq] at hve
      obtain ⟨rfl, _, rfl⟩ := hve
      rcases hd with hd | ⟨b, o, rfl, hd⟩
      · rw [hd] at hlt; simp at hlt
      obtain ⟨u, mm, hu, _, hsl, _⟩ := hd i c hci
      have hi1 : (0 : Int) ≤ (i : Int) := by omega
      have hi2 : (i : Int) < (cs.length : Int) := by omega
      have HSL := hide hsl
      have HCO := hide hco
      have HTR := hide ((unhide HT).below hs2 hbw)
      have hswr := hbw.size
      have HU : Hid (∀ w', Below wr.heap.size wr w' → w'.cell? ⟨b, o + i * 2, none⟩ = some u) := fun w' h' => (h'.cell (block_lt_of_cell hu)).trans hu
      clear hd hci hbw
      go_wp2_with fail
      refine (lend_any u c _ hco hsl).mono ?_
      rintro e w1 ⟨h, Gf, rfl, hle, hGf, hb1⟩
      have HLE := hide hle
      have HGF := hide hGf
      have HB1 := hide hb1
      have hs1 := hb1.size
      have HT1 := hide ((unhide HTR).below (by omega) hb1)
      clear hle hGf hb1 hco hsl hu
      by_cases hok : ParOK c.Ls
      · obtain ⟨h2, h6, hcl⟩ := hok
        have hP := parP_col hcl c.Ls.length (Nat.le_refl _)
        have hQ := parQ_col hcl c.Ls.length (Nat.le_refl _)
        have HCL := hide hcl
        clear hcl
        go_wp2_with fail
        refine (par_any h c.Ls _ ((unhide HLE).slL (unhide HSL)) h2 h6 (unhide HCL) (unhide HT1)).mono ?_
        rintro e w2 ⟨g1, c1, g2, c2, rfl, hg1, hg12, ho1, ho2, hb2⟩
        have hbr2 := (unhide HB1).trans (hb2.mono hs1)
        have hs2' := hb2.size
        have hg2l := (ho2.lt g2 rfl).2
        have HO1 := hide ho1
        have HO2 := hide ho2
        have HB2 := hide hb2
        have HBR2 := hide hbr2
        have hu2 := unhide HU w2 hbr2
        have HSL2 := hide ((unhide HSL).below hbr2)
        clear ho1 ho2 hb2 hbr2
        go_wp2_with fail
        refine (ref_par_any u c.Ls _ (unhide HSL2).slL (by have := (unhide HCO).len; omega) (unhide HCO).byte).mono ?_
        rintro e w3 ⟨hb3, hres⟩
        rcases hres with ⟨hno, _⟩ | ⟨_, gx, gy, rfl, hx, hy, hgx, hgy⟩
        · exact absurd ⟨h2, h6, unhide HCL⟩ hno
        have hs3 := hb3.size
        have hbr3 := (unhide HBR2).trans (hb3.mono (unhide HBR2).size)
        have hle3 := ((unhide HLE).below (unhide HB2)).below hb3
        have hxl := hx.lt (by rw [hP.len]; omega)
        have hyl := hy.lt (by rw [hQ.len]; omega)
        have hu3 := unhide HU w3 hbr3
        have HX := hide hx
        have HY := hide hy
        have HB3 := hide hb3
        have HBR3 := hide hbr3
        have HL3 := hide hle3
        clear hx hy hb3 hbr3 hle3 hu2
        go_wp2_with fail
        refine (back_any h u c Gf wr w3 wr.heap.size (unhide HCO) (unhide HL3) (unhide HSL) (Nat.le_refl _) (unhide HBR3)).mono ?_
        rintro e w4 ⟨rfl, hch⟩
        have hnot : ∀ k, w1.heap.size ≤ k → ¬ (c.zn = false ∧ ∃ i, i < c.Ls.length ∧ c.z i = false ∧ k = Gf i) := fun k hk ⟨hz, hX⟩ => by have := (unhide HGF k hX hz).2; omega
        have hnot' : ∀ k, k < wr.heap.size → ¬ (c.zn = false ∧ ∃ i, i < c.Ls.length ∧ c.z i = false ∧ k = Gf i) := fun k hk ⟨hz, hX⟩ => by have := (unhide HGF k hX hz).1; omega
        have ho1' := own_moved (ownsRow_keep (unhide HO1) (unhide HB3)) hch (hnot g1 hg1) (lo := w.heap.size) (by omega)
        have ho2' := own_moved (ownsRow_keep (unhide HO2) (unhide HB3)) hch (hnot g2 (by omega)) (lo := w.heap.size) (by omega)
        have hx4 := buf_chg (unhide HX) hch (hnot gx (by omega)) hxl
        have hy4 := buf_chg (unhide HY) hch (hnot gy (by omega)) hyl
        have hcp := own_conv hP ho1'
        have hcq := own_conv hQ ho2'
        have hcx := conv_str (c := 16) hx4 hP
        have hcy := conv_str (c := 16) hy4 hQ
        have hs4 := hch.size
        have hbr4 : Below wr.heap.size wr w4 := (unhide HBR3).trans (hch.below wr.heap.size (unhide HBR3).size hnot')
        have HP1 := hide (show w4.ownsRow w.heap.size 5 1 (.slice (some ⟨g1, 0, none⟩) 16 c1) (parP c.Ls c.Ls.length).length ((parP c.Ls c.Ls.length).map B) by rw [hP.len]; exact ho1')
        have HQ1 := hide (show w4.ownsRow w.heap.size 5 1 (.slice (some ⟨g2, 0, none⟩) 16 c2) (parQ c.Ls c.Ls.length).length ((parQ c.Ls c.Ls.length).map B) by rw [hQ.len]; exact ho2')
        have hbk4 := (unhide HBK).below hbr4
        have HBK4 := hide hbk4
        have HBR4 := hide hbr4
        have hPl := hP.len
        have hQl := hQ.len
        have HPl := hide hPl
        have HQl := hide hQl
        clear ho1' ho2' hx4 hy4 hch hnot hnot' hbk4 hbr4 hu3 HX HY HB3 HBR3 HL3 HO1 HO2 HB2 HBR2 HSL2 hPl hQl hP hQ
        generalize strOf (parP c.Ls c.Ls.length) = sp at *
        generalize strOf (parQ c.Ls c.Ls.length) = sq at *
        go_wp2_with fail
        clear hcp hcq hcx hcy
        refine (own_any wr.heap.size w.heap.size w.heap.size (2 * i) bs ks U Ln (.slice (some ⟨g1, 0, none⟩) 16 c1) (parP c.Ls c.Ls.length) w4 (unhide HBK4) (by omega) (unhide HP1) (by rw [unhide HPl]; omega) (fun g hg => (by
          obtain rfl : g1 = g := by simpa [Value.ownBlock] using hg
          exact (unhide HBK4).free g1 (by omega))) (by omega)).mono ?_
        rintro e w5 ⟨bs', ks', U', Ln', rfl, hbk5, hb5, hfr5⟩
        obtain ⟨hfree2, hblk2⟩ := hfr5 g2 (by omega) ((unhide HBK4).free g2 (by omega)) (by simp [Value.ownBlock]; omega)
        have hs5 := hb5.size
        have HQ2 := hide (ownsRow_block (unhide HQ1) (fun g hg => (by
          obtain rfl : g2 = g := by simpa [Value.ownBlock] using hg
          exact hblk2)))
        have HBK5 := hide hbk5
        have HF2 := hide hfree2
        have HB5 := hide (((unhide HB).trans ((unhide HBR4).mono hswr)).trans hb5)
        clear hbk5 hb5 hfr5 hfree2 hblk2 HQ1 HP1
        go_wp2_with fail
        refine (own_any w5.heap.size w.heap.size w.heap.size (2 * i + 1) bs' ks' U' Ln' (.slice (some ⟨g2, 0, none⟩) 16 c2) (parQ c.Ls c.Ls.length) w5 (unhide HBK5) (Nat.le_refl _) (unhide HQ2) (by rw [unhide HQl]; omega) (fun g hg => (by
          obtain rfl : g2 = g := by simpa [Value.ownBlock] using hg
          exact unhide HF2)) (by omega)).mono ?_
        rintro e w6 ⟨bs'', ks'', U'', Ln'', rfl, hbk6, hb6', _⟩
        have HBK6 := hide hbk6
        have HB6' := hide ((unhide HB5).trans hb6')
        clear hbk6 hb6'
        go_wp2_with fail
        refine (kept_any w6.heap.size w.heap.size w.heap.size (2 * i + 1 + 1) bs'' ks'' U'' Ln'' w6 (unhide HBK6) (Nat.le_refl _) (by omega)).mono ?_
        rintro e w7 ⟨rfl, hb7⟩
        have hbk6 := unhide HBK6
        have hb6 := unhide HB6'
        have HB6 := hide hb6
        have hbk7 := hbk6.below hb7
        have HBK7 : Hid (Book w7 w7.heap.size w.heap.size w.heap.size (2 * (i + 1)) bs'' ks'' U'' Ln'') := by
          have := hbk7.mono hb7.size
          rw [show 2 * (i + 1) = 2 * i + 1 + 1 by omega]
          exact this
        have HB7 := hide ((unhide HB6).trans (hb7.mono (unhide HB6).size))
        clear hbk6 hbk7 hb6 hb7
        go_wp2
        go_roundw
        case rel => exact ⟨i + 1, bs'', ks'', U'', Ln'', by omega, by go_num, unhide HBK7, unhide HB7⟩
        case measure => simp [intOf]; omega
      · have HNO := hide hok
        clear hok
        go_wp2_with fail
        refine (par_no h c.Ls _ ((unhide HLE).slL (unhide HSL)) (unhide HNO) (unhide HCO).byte (fun j hj => by have := (unhide HCO).lens j hj; omega)).mono ?_
        rintro e w2 ⟨rfl, hb2⟩
        have hbr2 := (unhide HB1).trans (hb2.mono hs1)
        have hs2' := hb2.size
        have HB2 := hide hb2
        have HBR2 := hide hbr2
        have hu2 := unhide HU w2 hbr2
        have HSL2 := hide ((unhide HSL).below hbr2)
        clear hb2 hbr2
        go_wp2_with fail
        refine (ref_par_any u c.Ls _ (unhide HSL2).slL (by have := (unhide HCO).len; omega) (unhide HCO).byte).mono ?_
        rintro e w3 ⟨hb3, hres⟩
        rcases hres with ⟨_, rfl⟩ | ⟨hyes, _⟩
        rotate_left
        · exact absurd hyes (unhide HNO)
        have hs3 := hb3.size
        have hbr3 := (unhide HBR2).trans (hb3.mono (unhide HBR2).size)
        have hle3 := ((unhide HLE).below (unhide HB2)).below hb3
        have hu3 := unhide HU w3 hbr3
        have HBR3 := hide hbr3
        have HL3 := hide hle3
        clear hb3 hbr3 hle3 hu2
        go_wp2_with fail
        refine (back_any h u c Gf wr w3 wr.heap.size (unhide HCO) (unhide HL3) (unhide HSL) (Nat.le_refl _) (unhide HBR3)).mono ?_
        rintro e w4 ⟨rfl, hch⟩
        have hnot' : ∀ k, k < wr.heap.size → ¬ (c.zn = false ∧ ∃ i, i < c.Ls.length ∧ c.z i = false ∧ k = Gf i) := fun k hk ⟨hz, hX⟩ => by have := (unhide HGF k hX hz).1; omega
        have hcn : (convert 31 9 (.slice none 0 0)).run Tryd.prog w4 = .ok (.string ByteArray.empty) w4 := run_convert_bytes_nil w4 31 5 Tryd.underlying31 Tryd.underlying5 0 0 9 Tryd.underlying9
        have hs4 := hch.size
        have hbr4 : Below wr.heap.size wr w4 := (unhide HBR3).trans (hch.below wr.heap.size (unhide HBR3).size hnot')
        have HBK4 := hide ((unhide HBK).below hbr4)
        have HBR4 := hide hbr4
        clear hch hnot' hbr4 hu3 HBR3 HL3 HB2 HBR2 HSL2
        generalize ByteArray.empty = sp at *
        go_wp2_with fail
        clear hcn
        refine (own_any wr.heap.size w.heap.size w.heap.size (2 * i) bs ks U Ln (.slice none 0 0) [] w4 (unhide HBK4) (by omega) (World.ownsRow_nil _ _ _ _) (by simp) (fun g hg => (by cases hg)) (by omega)).mono ?_
        rintro e w5 ⟨bs', ks', U', Ln', rfl, hbk5, hb5, _⟩
        have hs5 := hb5.size
        have HBK5 := hide hbk5
        have HB5 := hide (((unhide HB).trans ((unhide HBR4).mono hswr)).trans hb5)
        clear hbk5 hb5
        go_wp2_with fail
        refine (own_any w5.heap.size w.heap.size w.heap.size (2 * i + 1) bs' ks' U' Ln' (.slice none 0 0) [] w5 (unhide HBK5) (Nat.le_refl _) (World.ownsRow_nil _ _ _ _) (by simp) (fun g hg => (by cases hg)) (by omega)).mono ?_
        rintro e w6 ⟨bs'', ks'', U'', Ln'', rfl, hbk6, hb6', _⟩
        have HBK6 := hide hbk6
        have HB6' := hide ((unhide HB5).trans hb6')
        clear hbk6 hb6'
        go_wp2_with fail
        refine (kept_any w6.heap.size w.heap.size w.heap.size (2 * i + 1 + 1) bs'' ks'' U'' Ln'' w6 (unhide HBK6) (Nat.le_refl _) (by omega)).mono ?_
        rintro e w7 ⟨rfl, hb7⟩
        have hbk6 := unhide HBK6
        have hb6 := unhide HB6'
        have HB6 := hide hb6
        have hbk7 := hbk6.below hb7
        have HBK7 : Hid (Book w7 w7.heap.size w.heap.size w.heap.size (2 * (i + 1)) bs'' ks'' U'' Ln'') := by
          have := hbk7.mono hb7.size
          rw [show 2 * (i + 1) = 2 * i + 1 + 1 by omega]
          exact this
        have HB7 := hide ((unhide HB6).trans (hb7.mono (unhide HB6).size))
        clear hbk6 hbk7 hb6 hb7
        go_wp2
        go_roundw
        case rel => exact ⟨i + 1, bs'', ks'', U'', Ln'', by omega, by go_num, unhide HBK7, unhide HB7⟩
        case measure => simp [intOf]; omega
    · obtain rfl : i = cs.length := by omega
      clear hbw
      go_wp2
      go_ret
      exact ⟨rfl, unhide HB⟩

end Go.Proofs.YtdcinlkkjbclmaaDoor
