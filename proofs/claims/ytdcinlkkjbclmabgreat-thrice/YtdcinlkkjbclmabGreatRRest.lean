/- Commands are told and done till there are none. -/
import Derived.Test.YtdcinlkkjbclmabGreatRCarry
namespace Go.Proofs.YtdcinlkkjbclmabGreat
open Go.RowKit

/-- block lb holds these commands -/
def CmdsAt (w : World) (lb : Nat) (L : List Cmd) : Prop := ∃ cs, Blk w lb cs 64 ∧ ∀ i c, L[i]? = some c → IsSl c.data ∧ cs[i * 5]? = some (.int .i64 c.id) ∧ cs[i * 5 + 1]? = some (.int .i64 c.kind) ∧ cs[i * 5 + 2]? = some (.int .i64 c.disk) ∧ cs[i * 5 + 3]? = some (.int .i64 c.sector) ∧ cs[i * 5 + 4]? = some c.data
set_option maxRecDepth 100000 in
set_option maxHeartbeats 8000000 in
theorem rest_any (gb pb : Nat) (J : Nat → World → Prop) (I : Nat → List Cmd → Nat → World → Prop) (R : World → Prop)
    (hJ : ∀ p w, J p w → w.cell? ⟨gb, 2, none⟩ = some (.pointer (some ⟨pb, 0, none⟩)) ∧ Calls Tryz.prog 19 #[.pointer (some ⟨pb, 0, none⟩)] w fun e w' => ∃ v, e = .returned v ∧ ((p = 0 ∧ (∃ a c, v = .slice a 0 c) ∧ R w') ∨ (0 < p ∧ ∃ lb cap L, 0 < L.length ∧ L.length ≤ 8 ∧ v = .slice (some ⟨lb, 0, none⟩) L.length cap ∧ CmdsAt w' lb L ∧ I lb L p w')))
    (hI : ∀ lb c L p w, I lb (c :: L) p w → Calls Tryz.prog 25 #[.pointer (some ⟨gb, 0, none⟩), .agg c.cells.toArray] w fun e w' => e = .returned (.bool true) ∧ I lb L p w' ∧ ∀ cs, Blk w lb cs 64 → Blk w' lb cs 64)
    (hE : ∀ lb p w, I lb [] (p + 1) w → J p w) (p : Nat) (hp : p ≤ 2) (w : World) (h : J p w) :
    Calls Tryz.prog 15 #[.pointer (some ⟨gb, 0, none⟩), .int .i64 5000] w fun e w' => e = .returned (.bool true) ∧ R w' := by
  have HJ := hide hJ
  have HI := hide hI
  have HE := hide hE
  have H0 := hide h
  clear hJ hI hE h
  go_enter Tryz.func15, Tryz.ntmps15
  go_wp2
  go_loopw [5] (fun nv wr => ∃ (p k : Nat), p ≤ 2 ∧ k + 8 * p ≤ 16 ∧ nv = .int .i64 (k : Int) ∧ J p wr) (fun nv _ => 5000 - (intOf nv).toNat)
  case atStart => exact ⟨p, 0, hp, by omega, rfl, unhide H0⟩
  case round =>
    clear H0 hp
    obtain ⟨p, k, hp, hkp, rfl, hj⟩ := hrel
    obtain ⟨c2, hcm⟩ := unhide HJ p wr hj
    have HC := hide hcm
    have hk1 : (k : Int) < 5000 := by omega
    have hk0 : (0 : Int) ≤ (k : Int) := by omega
    clear hcm hj
    go_wp2_with fail
    refine (unhide HC).mono ?_
    rintro e w1 ⟨v, rfl, hv⟩
    clear HC c2
    rcases hv with ⟨rfl, ⟨ea, ec, rfl⟩, hR⟩ | ⟨hp0, lb, cap, L, hL0, hL8, rfl, hcs, hi⟩
    · have HR := hide hR
      clear hR
      go_wp2
      go_ret
      exact ⟨rfl, unhide HR⟩
    · obtain ⟨cs, hbk, hel⟩ := hcs
      have HEL := hide hel
      have HBK := hide hbk
      have HII := hide hi
      have hL0i : ¬ L.length = 0 := by omega
      have hb0 : ((L.length : Int) == 0) = false := beq_eq_false_iff_ne.2 (by omega)
      have hLi : (L.length : Int) ≤ 8 := by omega
      clear hel hbk hi
      obtain ⟨wo, hwo⟩ : ∃ wo, wo = wr := ⟨wr, rfl⟩
      clear hwo
      go_wp2
      go_loopw [5, 7] (fun nv iv wr => ∃ (j : Nat), j ≤ L.length ∧ nv = .int .i64 ((k + j : Nat) : Int) ∧ iv = .int .i64 (j : Int) ∧ Blk wr lb cs 64 ∧ I lb (L.drop j) p wr) (fun _ i _ => L.length - (intOf i).toNat)
      case atStart => exact ⟨0, Nat.zero_le _, rfl, rfl, unhide HBK, by simpa using unhide HII⟩
      case round =>
        obtain ⟨j, hj, rfl, rfl, hbk, hi⟩ := hrel
        rcases Nat.lt_or_ge j L.length with hlt | hge
        · obtain ⟨c, hc⟩ : ∃ c, L[j]? = some c := ⟨L[j], List.getElem?_eq_getElem hlt⟩
          have hcj : L[j] = c := by rw [List.getElem?_eq_getElem hlt] at hc; exact Option.some.inj hc
          have hdr : L.drop j = c :: L.drop (j + 1) := by rw [List.drop_eq_getElem_cons hlt, hcj]
          rw [hdr] at hi
          obtain ⟨⟨sa, sn, sc, hsl⟩, q0, q1, q2, q3, q4⟩ := unhide HEL j c hc
          have HCA := hide (unhide HI lb c (L.drop (j + 1)) p wr hi)
          obtain ⟨cid, ckd, cdk, cse, cda⟩ := c
          simp only at hsl q0 q1 q2 q3 q4
          subst hsl
          have z0 : wr.cell? ⟨lb, j * 5, none⟩ = some (.int .i64 cid) := (hbk.cell _).trans q0
          have z1 : wr.cell? ⟨lb, j * 5 + 1, none⟩ = some (.int .i64 ckd) := (hbk.cell _).trans q1
          have z2 : wr.cell? ⟨lb, j * 5 + 2, none⟩ = some (.int .i64 cdk) := (hbk.cell _).trans q2
          have z3 : wr.cell? ⟨lb, j * 5 + 3, none⟩ = some (.int .i64 cse) := (hbk.cell _).trans q3
          have z4 : wr.cell? ⟨lb, j * 5 + 4, none⟩ = some (.slice sa sn sc) := (hbk.cell _).trans q4
          have HBJ := hide hbk
          have ij0 : (0 : Int) ≤ (j : Int) := by omega
          have ij1 : (j : Int) < (L.length : Int) := by omega
          have ine : (((k + j : Nat) : Int) == 5000) = false := beq_eq_false_iff_ne.2 (by omega)
          have inn : ¬ (k + j = 5000) := by omega
          have ik : ((k + j : Nat) : Int) ≤ 100 := by omega
          have ik0 : (0 : Int) ≤ ((k + j : Nat) : Int) := by omega
          generalize hkj : k + j = m at *
          unfold Cmd.cells at HCA
          clear q0 q1 q2 q3 q4 hc hcj hdr hbk hi
          go_wp2_with fail
          refine (unhide HCA).mono ?_
          rintro e w2 ⟨rfl, hi2, hkb⟩
          have HB2 := hide (hkb cs (unhide HBJ))
          have HI2 := hide hi2
          clear hi2 hkb HCA HBJ z0 z1 z2 z3 z4
          go_wp2
          go_roundw
          case rel => exact ⟨j + 1, by omega, by rw [show k + (j + 1) = m + 1 by omega]; go_num, by go_num, unhide HB2, unhide HI2⟩
          case measure => simp [intOf]; omega
        · obtain rfl : j = L.length := by omega
          rw [List.drop_length] at hi
          obtain ⟨p', rfl⟩ : ∃ p', p = p' + 1 := ⟨p - 1, by omega⟩
          have HJ' := hide (unhide HE lb p' wr hi)
          clear hi hbk
          go_wp2
          go_roundw
          case rel => exact ⟨p', k + L.length, by omega, by omega, rfl, unhide HJ'⟩
          case measure => simp [intOf]; omega

end Go.Proofs.YtdcinlkkjbclmabGreat
