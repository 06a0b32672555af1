/- The walk of Locates. -/
import Derived.Test.YtdcinlkkjbclmaaDoorLScript
import Derived.Test.YtdcinlkkjbclmaaDoorRefJudge
import Derived.Test.YtdcinlkkjbclmaaDoorPWalk
namespace Go.Proofs.YtdcinlkkjbclmaaDoor
open Go.RowKit

/-- what came out: nil, or a column of its own -/
def OutV (w : World) (base : Nat) (v : Value) (L : List Nat) : Prop := (v = .slice none 0 0 ∧ L = []) ∨ (IsCol L ∧ ∃ g c : Nat, v = .slice (some ⟨g, 0, none⟩) 16 c ∧ w.ownsRow base 5 1 v 16 (L.map B))
/-- what the reference tells: nil, or a column -/
def RdV (w : World) (base : Nat) (v : Value) (L : List Nat) : Prop := (v = .slice none 0 0 ∧ L = []) ∨ (IsCol L ∧ ∃ g c : Nat, v = .slice (some ⟨g, 0, none⟩) 16 c ∧ base ≤ g ∧ Buf w g L)
theorem conv_nil0 (w : World) : (convert 31 9 (.slice none 0 0)).run Tryd.prog w = .ok (.string (strOf [])) w := run_convert_bytes_nil w 31 5 Tryd.underlying31 Tryd.underlying5 0 0 9 Tryd.underlying9
theorem OutV.conv {w : World} {base : Nat} {v : Value} {L : List Nat} (h : OutV w base v L) : (convert 31 9 v).run Tryd.prog w = .ok (.string (strOf L)) w := by
  rcases h with ⟨rfl, rfl⟩ | ⟨hc, g, c, rfl, ho⟩
  · exact conv_nil0 w
  · exact own_conv hc ho
theorem RdV.conv {w : World} {base : Nat} {v : Value} {L : List Nat} (h : RdV w base v L) : (convert 31 9 v).run Tryd.prog w = .ok (.string (strOf L)) w := by
  rcases h with ⟨rfl, rfl⟩ | ⟨hc, g, c, rfl, _, hb⟩
  · exact conv_nil0 w
  · exact conv_str hb hc
theorem OutV.keep {w w' : World} {base : Nat} {v : Value} {L : List Nat} (h : OutV w base v L) (hb : Below w.heap.size w w') : OutV w' base v L := by
  rcases h with h | ⟨hc, g, c, rfl, ho⟩
  · exact Or.inl h
  · exact Or.inr ⟨hc, g, c, rfl, ownsRow_keep ho hb⟩
theorem OutV.chg {X : Nat → Prop} {w w' : World} {base : Nat} {v : Value} {L : List Nat} (h : OutV w base v L) (hch : Chg X w w') (hX : ∀ k, base ≤ k → ¬ X k) : OutV w' base v L := by
  rcases h with h | ⟨hc, g, c, rfl, ho⟩
  · exact Or.inl h
  · exact Or.inr ⟨hc, g, c, rfl, own_moved ho hch (hX g (ho.lt g rfl).1) (Nat.le_refl _)⟩
theorem RdV.chg {X : Nat → Prop} {w w' : World} {base : Nat} {v : Value} {L : List Nat} (h : RdV w base v L) (hch : Chg X w w') (hX : ∀ k, base ≤ k → ¬ X k) : RdV w' base v L := by
  rcases h with h | ⟨hc, g, c, rfl, hg, hb⟩
  · exact Or.inl h
  · exact Or.inr ⟨hc, g, c, rfl, hg, buf_chg hb hch (hX g hg) (hb.lt (by rw [hc.len]; omega))⟩
theorem OutV.row {w : World} {base lo : Nat} {v : Value} {L : List Nat} (h : OutV w base v L) (hl : lo ≤ base) : w.ownsRow lo 5 1 v L.length (L.map B) := by
  rcases h with ⟨rfl, rfl⟩ | ⟨hc, g, c, rfl, ho⟩
  · exact World.ownsRow_nil _ _ _ _
  · rw [hc.len]; exact ownsRow_base_le ho hl
theorem OutV.len {w : World} {base : Nat} {v : Value} {L : List Nat} (h : OutV w base v L) : L.length ≤ 16 := by
  rcases h with ⟨_, rfl⟩ | ⟨hc, _⟩
  · simp
  · rw [hc.len]; omega
theorem OutV.at {w : World} {base : Nat} {v : Value} {L : List Nat} (h : OutV w base v L) : ∀ g, v.ownBlock = some g → base ≤ g := by
  rcases h with ⟨rfl, _⟩ | ⟨hc, g, c, rfl, ho⟩
  · intro g hg; cases hg
  · intro g' hg'; exact (ho.lt g' hg').1

set_option maxRecDepth 100000 in
set_option maxHeartbeats 8000000 in
theorem locates_any (v : Value) (cs : List ColI) (w : World) (hv : SlC w v cs) (hl : cs.length ≤ 1048576) (hok : ∀ c ∈ cs, ColOK c) (ht : Tabs w) :
    Calls Tryd.prog 5 #[v] w fun e w' => e = .returned (.bool true) ∧ Below w.heap.size w w' := by
  have hs2 := ht.size
  obtain ⟨a, cap, hve, _⟩ := id hv
  subst hve
  have HV := hide hv
  have HOK := hide hok
  have HT := hide ht
  clear hv hok ht
  go_enter Tryd.func5, Tryd.ntmps5
  go_wp2
  have HBN := hide (book_new w (fun _ => .slice none 0 0) (fun _ => 0))
  go_loopw [4] (fun iv wr => ∃ (i : Nat) (bs ks : Value) (U : Nat → Value) (Ln : Nat → Nat), i ≤ cs.length ∧ iv = .int .i64 (i : Int) ∧ Book wr wr.heap.size w.heap.size w.heap.size i bs ks U Ln ∧ Below w.heap.size w wr) (fun i _ => cs.length - (intOf i).toNat)
  case atStart => exact ⟨0, _, _, _, _, Nat.zero_le _, rfl, unhide HBN, (Below.refl _ _).alloc (Nat.le_refl _) _⟩
  case round =>
    clear HBN
    obtain ⟨i, bs, ks, U, Ln, hi, rfl, hbk, hbw⟩ := hrel
    have HBK := hide hbk
    have HB := hide hbw
    clear hbk
    rcases Nat.lt_or_ge i cs.length with hlt | hge
    · obtain ⟨c, hci⟩ : ∃ c, cs[i]? = some c := ⟨cs[i], List.getElem?_eq_getElem hlt⟩
      have hco := unhide HOK c (List.mem_of_getElem? hci)
      obtain ⟨a', cap', hve, hd⟩ := (unhide HV).below hbw
      simp only [Value.slice.injEq] at hve
      obtain ⟨rfl, _, rfl⟩ := hve
      rcases hd with hd | ⟨b, o, rfl, hd⟩
      · rw [hd] at hlt; simp at hlt
      obtain ⟨u, mm, hu, _, hsl, _, hcap⟩ := hd i c hci
      have hi1 : (0 : Int) ≤ (i : Int) := by omega
      have hi2 : (i : Int) < (cs.length : Int) := by omega
      have HSL := hide hsl
      have HCAP := hide hcap
      have HCO := hide hco
      have HTR := hide ((unhide HT).below hs2 hbw)
      have hswr := hbw.size
      have HU : Hid (∀ w', Below wr.heap.size wr w' → w'.cell? ⟨b, o + i * 2, none⟩ = some u) := fun w' h' => (h'.cell (block_lt_of_cell hu)).trans hu
      clear hd hci hbw hcap
      go_wp2_with fail
      refine (lend_any u c _ hco hsl).mono ?_
      rintro e w1 ⟨h, Gf, rfl, hle, hGf, hb1⟩
      have HLE := hide hle
      have HGF := hide hGf
      have HB1 := hide hb1
      have hs1 := hb1.size
      have HT1 := hide ((unhide HTR).below (by omega) hb1)
      have hnot : ∀ k, w1.heap.size ≤ k → ¬ (c.zn = false ∧ ∃ i, i < c.Ls.length ∧ c.z i = false ∧ k = Gf i) := fun k hk ⟨hz, hX⟩ => by have := (hGf k hX hz).2; omega
      have hnot' : ∀ k, k < wr.heap.size → ¬ (c.zn = false ∧ ∃ i, i < c.Ls.length ∧ c.z i = false ∧ k = Gf i) := fun k hk ⟨hz, hX⟩ => by have := (hGf k hX hz).1; omega
      have HNX := hide hnot
      have HNX' := hide hnot'
      clear hle hGf hb1 hco hsl hu hnot hnot'
      have hone : Calls Tryd.prog 16 #[h] w1 fun e w2 => Below w1.heap.size w1 w2 ∧ ∃ (vd at' ec : Int) (cv : Value) (L : List Nat), e = .returned (.tuple #[.int .i64 vd, .int .i64 at', cv, .int .i64 ec]) ∧ OutV w2 w1.heap.size cv L ∧
          ∀ w', Below wr.heap.size wr w' → Calls Tryd.prog 17 #[u] w' fun e w'' => Below w'.heap.size w' w'' ∧ ∃ dv, e = .returned (.tuple #[.int .i64 vd, .int .i64 at', dv, .int .i64 ec]) ∧ RdV w'' w'.heap.size dv L := by
        have href : ∀ w', Below wr.heap.size wr w' → _ := fun w' h' => ref_loc_any u c.Ls w' ((unhide HSL).below h').slL (unhide HCAP) (by have := (unhide HCO).len; omega) (unhide HCO).byte
        by_cases hlo : LocOK c.Ls
        · obtain ⟨h4, h8, hcl⟩ := id hlo
          refine (loc_any h c.Ls w1 ((unhide HLE).slL (unhide HSL)) h4 h8 hcl (unhide HT1)).mono ?_
          rintro e w2 ⟨vd, at', val, hloc, hval, hb2, hres⟩
          refine ⟨hb2, ?_⟩
          rcases hres with ⟨hne, rfl⟩ | ⟨rfl, g, cc, rfl, hown⟩
          · refine ⟨vd, 0, 0, .slice none 0 0, [], rfl, Or.inl ⟨rfl, rfl⟩, fun w' h' => (href w' h').mono ?_⟩
            rintro e w3 ⟨hb3, ⟨hno, _⟩ | ⟨_, vd', at'', val', d, rfl, hj, hd⟩⟩
            · exact absurd hlo hno
            · obtain ⟨rfl, _, hz⟩ := judge_same hcl (by omega) (by omega) hloc hj
              obtain rfl := hz hne
              rcases hd with ⟨_, rfl⟩ | ⟨h1, _⟩
              · exact ⟨hb3, _, rfl, Or.inl ⟨rfl, rfl⟩⟩
              · exact absurd h1 hne
          · refine ⟨1, at', 0, _, val, rfl, Or.inr ⟨hval, g, cc, rfl, hown⟩, fun w' h' => (href w' h').mono ?_⟩
            rintro e w3 ⟨hb3, ⟨hno, _⟩ | ⟨_, vd', at'', val', d, rfl, hj, hd⟩⟩
            · exact absurd hlo hno
            · obtain ⟨rfl, hs, _⟩ := judge_same hcl (by omega) (by omega) hloc hj
              obtain ⟨rfl, rfl⟩ := hs rfl
              rcases hd with ⟨h1, _⟩ | ⟨_, hvl, g2, c2, rfl, hg2, hbf⟩
              · exact absurd rfl h1
              · exact ⟨hb3, _, rfl, Or.inr ⟨hvl, g2, c2, rfl, hg2, hbf⟩⟩
        · refine (loc_no h c.Ls w1 ((unhide HLE).slL (unhide HSL)) hlo (unhide HCO).byte (fun j hj => by have := (unhide HCO).lens j hj; omega)).mono ?_
          rintro e w2 ⟨rfl, hb2⟩
          refine ⟨hb2, 0, 0, 1, .slice none 0 0, [], rfl, Or.inl ⟨rfl, rfl⟩, fun w' h' => (href w' h').mono ?_⟩
          rintro e w3 ⟨hb3, ⟨_, rfl⟩ | ⟨hy, _⟩⟩
          · exact ⟨hb3, _, rfl, Or.inl ⟨rfl, rfl⟩⟩
          · exact absurd hy hlo
      have HONE := hide hone
      clear hone
      go_wp2_with fail
      refine (unhide HONE).mono ?_
      rintro e w2 ⟨hb2, vd, at', ec, cv, L, rfl, hov, hrf⟩
      have hbr2 := (unhide HB1).trans (hb2.mono hs1)
      have hs2' := hb2.size
      have hu2 := unhide HU w2 hbr2
      have HB2 := hide hb2
      have HBR2 := hide hbr2
      have HOV := hide hov
      have HRF := hide (hrf w2 hbr2)
      clear hb2 hbr2 hov hrf HONE
      go_wp2_with fail
      refine (unhide HRF).mono ?_
      rintro e w3 ⟨hb3, dv, rfl, hrd⟩
      have hs3 := hb3.size
      have hbr3 := (unhide HBR2).trans (hb3.mono (unhide HBR2).size)
      have hu3 := unhide HU w3 hbr3
      have HL3 := hide (((unhide HLE).below (unhide HB2)).below hb3)
      have HOV3 := hide ((unhide HOV).keep hb3)
      have HRD := hide hrd
      have HBR3 := hide hbr3
      clear hb3 hbr3 hrd HRF HOV hu2
      go_wp2_with fail
      refine (back_any h u c Gf wr w3 wr.heap.size (unhide HCO) (unhide HL3) (unhide HSL) (Nat.le_refl _) (unhide HBR3)).mono ?_
      rintro e w4 ⟨rfl, hch⟩
      have hov4 := (unhide HOV3).chg hch (unhide HNX)
      have hrd4 := (unhide HRD).chg hch (fun k hk => unhide HNX k (by omega))
      have hcp := hov4.conv
      have hcx := hrd4.conv
      have hs4 := hch.size
      have hbr4 : Below wr.heap.size wr w4 := (unhide HBR3).trans (hch.below wr.heap.size (unhide HBR3).size (unhide HNX'))
      have HBK4 := hide ((unhide HBK).below hbr4)
      have HOV4 := hide hov4
      have HBR4 := hide hbr4
      clear hch hov4 hrd4 hbr4 hu3 HRD HOV3 HBR3 HL3
      obtain ⟨sL, hsL⟩ : ∃ sL, strOf L = sL := ⟨_, rfl⟩
      rw [hsL] at hcp hcx
      clear hsL
      go_wp2_with fail
      clear hcp hcx
      refine (own_any wr.heap.size w.heap.size w.heap.size i bs ks U Ln cv L w4 (unhide HBK4) (by omega) ((unhide HOV4).row (by omega)) (by have := (unhide HOV4).len; omega) (fun g hg => (unhide HBK4).free g (by have := (unhide HOV4).at g hg; omega)) (by omega)).mono ?_
      rintro e w5 ⟨bs', ks', U', Ln', rfl, hbk5, hb5, _⟩
      have hs5 := hb5.size
      have HBK5 := hide hbk5
      have HB5 := hide (((unhide HB).trans ((unhide HBR4).mono hswr)).trans hb5)
      clear hbk5 hb5
      go_wp2_with fail
      refine (kept_any w5.heap.size w.heap.size w.heap.size (i + 1) bs' ks' U' Ln' w5 (unhide HBK5) (Nat.le_refl _) (by omega)).mono ?_
      rintro e w7 ⟨rfl, hb7⟩
      have HBK7 := hide (((unhide HBK5).below hb7).mono hb7.size)
      have HB7 := hide ((unhide HB5).trans (hb7.mono (unhide HB5).size))
      clear hb7
      go_wp2
      go_roundw
      case rel => exact ⟨i + 1, bs', ks', U', Ln', by omega, by go_num, unhide HBK7, unhide HB7⟩
      case measure => simp [intOf]; omega
    · obtain rfl : i = cs.length := by omega
      clear hbw
      go_wp2
      go_ret
      exact ⟨rfl, unhide HB⟩

end Go.Proofs.YtdcinlkkjbclmaaDoor
