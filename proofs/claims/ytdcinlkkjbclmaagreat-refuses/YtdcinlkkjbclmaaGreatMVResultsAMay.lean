/- Results. -/
import Derived.Test.YtdcinlkkjbclmaaGreatVDone
namespace Go.Proofs.YtdcinlkkjbclmaaGreat
open Go.RowKit

set_option maxRecDepth 100000 in
set_option maxHeartbeats 8000000 in
theorem results_any (vb : Nat) (A : VA) (O : List Nat) (w : World) (h : Vol w vb A O) (hl : A.ress.length ≤ 60) (hsh : ∀ x ∈ A.ress, ∃ n e : Int, x = [.int .i64 n, .int .i64 e, .slice none 0 0, .int .i64 0, .int .i64 0]) :
    Calls Tryz.prog 86 #[.pointer (some ⟨vb, 0, none⟩)] w fun e w' => ∃ v O', e = .returned v ∧ Vol w' vb { A with ress := [] } O' ∧ Chg (fun b => b ∈ O) w w' ∧ (∀ b ∈ O', b ∈ O ∨ w.heap.size ≤ b) ∧ w'.ownsRow w.heap.size 103 5 v A.ress.length A.ress.flatten ∧ ∀ b ∈ dBlk v, b ∉ O' := by
  obtain ⟨iC, hiC, hzz⟩ := Option.map_eq_some_iff.1 elFullS
  simp only [Prod.mk.injEq] at hzz
  obtain ⟨hzC0, hzC1, hzC2⟩ := hzz
  have HV := hide h
  have HSH := hide hsh
  clear h hsh
  go_enter Tryz.func86, Tryz.ntmps86
  go_wp2
  go_loopw [3] (fun tv wr => ∃ (k : Nat) (Ok : List Nat), k ≤ A.ress.length ∧ Vol wr vb { A with ress := A.ress.drop k } Ok ∧ Chg (fun b => b ∈ O) w wr ∧ (∀ b ∈ Ok, b ∈ O ∨ w.heap.size ≤ b) ∧ wr.ownsRow w.heap.size 103 5 tv k (A.ress.take k).flatten ∧ ∀ b ∈ dBlk tv, b ∉ Ok) (fun tv _ => match tv with | .slice _ n _ => A.ress.length - n | _ => 0)
  case atStart => exact ⟨0, O, Nat.zero_le _, by simpa using unhide HV, Chg.refl _ _, fun b hb => Or.inl hb, World.ownsRow_nil _ _ _ _, by simp [dBlk]⟩
  case round =>
    obtain ⟨k, Ok, hk, hvk, hck, hok, hrw, hno⟩ := hrel
    obtain ⟨G, hG, _⟩ := id hvk
    have c14 : wr.cell? ⟨vb, 12 + 2, none⟩ = some (.int .i64 ((A.ress.length - k : Nat) : Int)) := (hG.blk.cell 14).trans (by show some (Value.int .i64 ((A.ress.drop k).length : Int)) = _; rw [List.length_drop])
    have hsz := hck.size
    rcases Nat.lt_or_ge k A.ress.length with hlt | hge
    · obtain ⟨n, er, hx⟩ := unhide HSH A.ress[k] (List.getElem_mem hlt)
      have hdr : A.ress.drop k = [.int .i64 n, .int .i64 er, .slice none 0 0, .int .i64 0, .int .i64 0] :: A.ress.drop (k + 1) := by rw [List.drop_eq_getElem_cons hlt, hx]
      have htk : (A.ress.take (k + 1)).flatten = (A.ress.take k).flatten ++ [.int .i64 n, .int .i64 er, .slice none 0 0, .int .i64 0, .int .i64 0] := by
        rw [List.take_succ_eq_append_getElem hlt, List.flatten_append, hx]
        simp
      have HT := hide (res_take vb _ Ok _ (A.ress.drop (k + 1)) wr hvk hdr)
      have HTK := hide htk
      have HCK := hide hck
      have HOK := hide hok
      have HRW := hide hrw
      have HNO := hide hno
      have hm1 : (0 : Int) < ((A.ress.length - k : Nat) : Int) := by omega
      clear hvk hck hok hrw hno hG hdr htk hx
      have HU3E : Hid (∃ a c, u3 = .slice a k c) := by
        rcases (unhide HRW).2 with ⟨e1, e2⟩ | ⟨g, cap, cur, e1, _⟩
        · exact ⟨none, 0, by rw [e1, e2]⟩
        · exact ⟨_, cap, e1⟩
      generalize hmm : A.ress.length - k = m at *
      go_wp2_with (go_at_call 111; refine (lenS_any vb 12 _ _ c14).mono ?_; rintro e wx ⟨rfl, hwx⟩; obtain rfl := hwx)
      refine (unhide HT).mono ?_
      rintro e w1 ⟨rfl, O1, v1, ch1, o1⟩
      have hs1 := ch1.size
      have hbn : Below w1.heap.size w1 ((w1.alloc (.cells #[.int .i64 n, .int .i64 er, .slice none 0 0, .int .i64 0, .int .i64 0] 103)).alloc (.cells #[.int .i64 n, .int .i64 er, .slice none 0 0, .int .i64 0, .int .i64 0] 103)) := ((Below.refl _ _).alloc (Nat.le_refl _) _).alloc (by simp) _
      have hka : Blk ((w1.alloc (.cells #[.int .i64 n, .int .i64 er, .slice none 0 0, .int .i64 0, .int .i64 0] 103)).alloc (.cells #[.int .i64 n, .int .i64 er, .slice none 0 0, .int .i64 0, .int .i64 0] 103)) (w1.heap.size + 1) #[.int .i64 n, .int .i64 er, .slice none 0 0, .int .i64 0, .int .i64 0] 103 := by
        have := Blk.new (w1.alloc (.cells #[.int .i64 n, .int .i64 er, .slice none 0 0, .int .i64 0, .int .i64 0] 103)) #[.int .i64 n, .int .i64 er, .slice none 0 0, .int .i64 0, .int .i64 0] 103
        rw [World.size_alloc] at this
        exact this
      have hrb := row_blk (unhide HRW)
      have hrw2 : ((w1.alloc (.cells #[.int .i64 n, .int .i64 er, .slice none 0 0, .int .i64 0, .int .i64 0] 103)).alloc (.cells #[.int .i64 n, .int .i64 er, .slice none 0 0, .int .i64 0, .int .i64 0] 103)).ownsRow w.heap.size 103 5 u3 k (A.ress.take k).flatten := ownsRow_at (unhide HRW) (fun g hg => by
        obtain ⟨_, cs, hkk⟩ := hrb g hg
        have hlt := hkk.lt
        exact (hbn.block g (by omega)).trans (ch1.block g hlt (unhide HNO g hg)))
      have hno2 : ∀ b ∈ dBlk u3, b ∉ O1 := fun b hb ho => by
        obtain ⟨_, cs, hkk⟩ := hrb b hb
        have hlt := hkk.lt
        rcases o1 b ho with q | q
        · exact unhide HNO b hb q
        · omega
      have hv2 := v1.new hbn
      have hc2 : Chg (fun b => b ∈ O) w ((w1.alloc (.cells #[.int .i64 n, .int .i64 er, .slice none 0 0, .int .i64 0, .int .i64 0] 103)).alloc (.cells #[.int .i64 n, .int .i64 er, .slice none 0 0, .int .i64 0, .int .i64 0] 103)) := chg_new ((unhide HCK).trans ch1 (unhide HOK)) hbn
      have hO2 : ∀ b ∈ O1, b ∈ O ∨ w.heap.size ≤ b := fun b hb => by
        rcases o1 b hb with q | q
        · exact unhide HOK b q
        · exact Or.inr (by omega)
      have hlt1 := v1.lt
      have HN1 : Hid (∀ j u, ([.int .i64 n, .int .i64 er, .slice none 0 0, .int .i64 0, .int .i64 0] : List Value)[j]? = some u → ((w1.alloc (.cells #[.int .i64 n, .int .i64 er, .slice none 0 0, .int .i64 0, .int .i64 0] 103)).alloc (.cells #[.int .i64 n, .int .i64 er, .slice none 0 0, .int .i64 0, .int .i64 0] 103)).cell? ((⟨w1.heap.size + 1, 0, none⟩ : Addr).add j) = some u) := fun j u hj => by rw [Addr.add_mid, Nat.zero_add, hka.cell]; simpa using hj
      have HNO1 : Hid (∀ u ∈ ([.int .i64 n, .int .i64 er, .slice none 0 0, .int .i64 0, .int .i64 0] : List Value), u.oneCell' = true) := fun u hu => by simp only [List.mem_cons, List.not_mem_nil, or_false] at hu; rcases hu with rfl | rfl | rfl | rfl | rfl <;> rfl
      have HRW2 := hide hrw2
      have HNO2 := hide hno2
      have HV2 := hide hv2
      have HC2 := hide hc2
      have HO2 := hide hO2
      have HLT1 := hide hlt1
      clear hbn hka hrb hrw2 hno2 hv2 hc2 hO2 hlt1 v1 ch1 o1 HT c14 HCK HOK HRW HNO
      go_wp2_with (at_builtin; refine wpList_append_lies _ rfl (.tmp 18) (.tmp 20) 99 rfl w.heap.size 103 iC _ 5 56 Tryz.underlying99 hiC hzC0 hzC1 hzC2 rfl (by decide) u3 k (A.ress.take k).flatten rfl (unhide HRW2) ⟨w1.heap.size + 1, 0, none⟩ 1 1 [.int .i64 n, .int .i64 er, .slice none 0 0, .int .i64 0, .int .i64 0] rfl rfl (unhide HN1) (unhide HNO1) (by decide) (by unfold maxLen; omega) (by omega) (by have := (unhide HC2).size; exact this) (w1.heap.size + 1 + 1) (by simp) ?_)
      intro g2 c2 w4 hown hgrow hat hlt4
      have hgw : Chg (fun b => b ∈ dBlk u3) ((w1.alloc (.cells #[.int .i64 n, .int .i64 er, .slice none 0 0, .int .i64 0, .int .i64 0] 103)).alloc (.cells #[.int .i64 n, .int .i64 er, .slice none 0 0, .int .i64 0, .int .i64 0] 103)) w4 := (Chg.refl _ _).grown hgrow (fun g hg => Or.inl (own_dBlk _ g hg))
      have hv4 := (unhide HV2).chg hgw (fun b hb hx => unhide HNO2 b hx hb)
      have hc4 : Chg (fun b => b ∈ O) w w4 := (unhide HC2).trans hgw (fun b hb => Or.inr ((row_blk (unhide HRW2)) b hb).1)
      have hg2 : g2 ∉ O1 := fun ho => by
        rcases hat with q | q
        · exact unhide HNO2 g2 (own_dBlk _ _ q) ho
        · have := unhide HLT1 _ ho; omega
      have HOWN : Hid (w4.ownsRow w.heap.size 103 5 (.slice (some ⟨g2, 0, none⟩) (k + 1) c2) (k + 1) (A.ress.take (k + 1)).flatten) := by rw [unhide HTK]; exact hown
      have HV4 := hide hv4
      have HC4 := hide hc4
      clear hown hgrow hat hlt4 hgw hv4 hc4 HV2 HC2 HRW2 HN1 HNO1
      go_wp2
      go_roundw
      case rel => exact ⟨k + 1, O1, by omega, unhide HV4, unhide HC4, unhide HO2, unhide HOWN, fun b hb => by simp only [dBlk, List.mem_singleton] at hb; rw [hb]; exact hg2⟩
      case measure =>
        obtain ⟨a3, cc3, e3⟩ := unhide HU3E
        rw [e3]
        simp
        omega
    · obtain rfl : k = A.ress.length := by omega
      rw [Nat.sub_self] at c14
      rw [List.drop_length] at hvk
      rw [List.take_length] at hrw
      have HVK := hide hvk
      have HCK := hide hck
      have HOK := hide hok
      have HRW := hide hrw
      have HNO := hide hno
      clear hvk hck hok hrw hno hG
      go_wp2_with (go_at_call 111; refine (lenS_any vb 12 _ _ c14).mono ?_; rintro e wx ⟨rfl, hwx⟩; obtain rfl := hwx)
      go_ret
      exact ⟨_, Ok, rfl, unhide HVK, unhide HCK, unhide HOK, unhide HRW, unhide HNO⟩

end Go.Proofs.YtdcinlkkjbclmaaGreat

/- Which requests may be, in general; what may not is refused. -/
namespace Go.Proofs.YtdcinlkkjbclmaaGreat
open Go.RowKit

def mayN (A : VA) (k : Int) : Int := if k = 1 then (A.stripes : Int) * ((A.stand.length : Int) - 2) else if k = 2 then (A.stripes : Int) * ((A.stand.length : Int) - 2) else if k = 3 then 1 else if k = 4 then (A.stripes : Int) else 0
def mayD (k : Int) : Nat := if k = 2 then 16 else 0
def mayB (A : VA) (k n : Int) (dn : Nat) : Bool := decide (0 ≤ n) && (decide (n < mayN A k) && decide (dn = mayD k))

set_option maxRecDepth 100000 in
set_option maxHeartbeats 4000000 in
theorem may_any (vb : Nat) (A : VA) (O : List Nat) (k n : Int) (da : Option Addr) (dn dc : Nat) (w : World) (h : Vol w vb A O) (h1 : 4 ≤ A.stand.length) (h2 : A.stand.length ≤ 8) (hst : A.stripes ≤ 6) :
    Calls Tryz.prog 75 #[.pointer (some ⟨vb, 0, none⟩), .agg #[.int .i64 k, .int .i64 n, .slice da dn dc]] w fun e w' => e = .returned (.bool (mayB A k n dn)) ∧ Below w.heap.size w w' := by
  have HB0 := hide ((Below.refl w.heap.size w).alloc (Nat.le_refl _) (.cells #[.int .i64 k, .int .i64 n, .slice da dn dc] 38))
  have HK0 := hide (Blk.new w #[.int .i64 k, .int .i64 n, .slice da dn dc] 38)
  have HBL := hide (blocks_any vb A O _ (h.new (unhide HB0)) h1 h2 hst)
  obtain ⟨G, hG, _⟩ := id (h.new (unhide HB0))
  have c1 : (w.alloc (.cells #[.int .i64 k, .int .i64 n, .slice da dn dc] 38)).cell? ⟨vb, 1, none⟩ = some (.int .i64 (A.stripes : Int)) := hG.blk.cell 1
  clear h hst h1 h2 hG
  unfold mayB
  by_cases e1 : k = 1
  · have hN : mayN A k = (A.stripes : Int) * ((A.stand.length : Int) - 2) := by simp [mayN, e1]
    have hD : mayD k = 0 := by simp [mayD, e1]
    rw [hN, hD]
    clear hN hD c1
    subst e1
    generalize (A.stripes : Int) * ((A.stand.length : Int) - 2) = N at *
    go_enter Tryz.func75, Tryz.ntmps75
    go_wp2_with fail
    refine (unhide HBL).mono ?_
    rintro e w1 ⟨rfl, q, hq⟩
    have HB1 : Hid (Below w.heap.size w w1) := by rw [hq]; exact below_drewN (unhide HB0) q
    have hk : Blk w1 w.heap.size #[.int .i64 1, .int .i64 n, .slice da dn dc] 38 := by rw [hq]; exact (unhide HK0).chg (X := fun _ => False) ((Chg.refl _ _).drewN q) id
    have k1 : w1.cell? ⟨w.heap.size, 1, none⟩ = some (.int .i64 n) := hk.cell 1
    have k2 : w1.cell? ⟨w.heap.size, 2, none⟩ = some (.slice da dn dc) := hk.cell 2
    clear hq hk HBL HK0 HB0
    by_cases a1 : 0 ≤ n
    · by_cases a2 : n < N
      · by_cases a3 : dn = 0
        · subst a3
          go_wp2
          go_ret
          exact ⟨by simp <;> omega, unhide HB1⟩
        · have a3' : ((dn : Int) == 0) = false := by simp; omega
          go_wp2
          go_ret
          exact ⟨by simp [a3], unhide HB1⟩
      · go_wp2
        go_ret
        exact ⟨by simp <;> omega, unhide HB1⟩
    · go_wp2
      go_ret
      exact ⟨by simp <;> omega, unhide HB1⟩
  by_cases e2 : k = 2
  · have hN : mayN A k = (A.stripes : Int) * ((A.stand.length : Int) - 2) := by simp [mayN, e2]
    have hD : mayD k = 16 := by simp [mayD, e2]
    rw [hN, hD]
    clear hN hD c1 e1
    subst e2
    generalize (A.stripes : Int) * ((A.stand.length : Int) - 2) = N at *
    go_enter Tryz.func75, Tryz.ntmps75
    go_wp2_with fail
    refine (unhide HBL).mono ?_
    rintro e w1 ⟨rfl, q, hq⟩
    have HB1 : Hid (Below w.heap.size w w1) := by rw [hq]; exact below_drewN (unhide HB0) q
    have hk : Blk w1 w.heap.size #[.int .i64 2, .int .i64 n, .slice da dn dc] 38 := by rw [hq]; exact (unhide HK0).chg (X := fun _ => False) ((Chg.refl _ _).drewN q) id
    have k1 : w1.cell? ⟨w.heap.size, 1, none⟩ = some (.int .i64 n) := hk.cell 1
    have k2 : w1.cell? ⟨w.heap.size, 2, none⟩ = some (.slice da dn dc) := hk.cell 2
    clear hq hk HBL HK0 HB0
    by_cases a1 : 0 ≤ n
    · by_cases a2 : n < N
      · by_cases a3 : dn = 16
        · subst a3
          go_wp2
          go_ret
          exact ⟨by simp <;> omega, unhide HB1⟩
        · have a3' : ((dn : Int) == 16) = false := by simp; omega
          go_wp2
          go_ret
          exact ⟨by simp [a3], unhide HB1⟩
      · go_wp2
        go_ret
        exact ⟨by simp <;> omega, unhide HB1⟩
    · go_wp2
      go_ret
      exact ⟨by simp <;> omega, unhide HB1⟩
  clear HBL HK0
  have hD : mayD k = 0 := by simp [mayD, e2]
  rw [hD]
  clear hD
  by_cases e3 : k = 3
  · have hN : mayN A k = 1 := by simp [mayN, e3]
    rw [hN]
    clear hN c1 e1 e2
    subst e3
    by_cases a1 : 0 ≤ n
    · by_cases a2 : n < 1
      · by_cases a3 : dn = 0
        · subst a3
          go_enter Tryz.func75, Tryz.ntmps75
          go_wp2
          go_ret
          exact ⟨by simp <;> omega, unhide HB0⟩
        · have a3' : ((dn : Int) == 0) = false := by simp; omega
          go_enter Tryz.func75, Tryz.ntmps75
          go_wp2
          go_ret
          exact ⟨by simp [a3], unhide HB0⟩
      · go_enter Tryz.func75, Tryz.ntmps75
        go_wp2
        go_ret
        exact ⟨by simp <;> omega, unhide HB0⟩
    · go_enter Tryz.func75, Tryz.ntmps75
      go_wp2
      go_ret
      exact ⟨by simp <;> omega, unhide HB0⟩
  by_cases e4 : k = 4
  · have hN : mayN A k = (A.stripes : Int) := by simp [mayN, e4]
    rw [hN]
    clear hN e1 e2 e3
    subst e4
    generalize (A.stripes : Int) = N at *
    by_cases a1 : 0 ≤ n
    · by_cases a2 : n < N
      · by_cases a3 : dn = 0
        · subst a3
          go_enter Tryz.func75, Tryz.ntmps75
          go_wp2
          go_ret
          exact ⟨by simp <;> omega, unhide HB0⟩
        · have a3' : ((dn : Int) == 0) = false := by simp; omega
          go_enter Tryz.func75, Tryz.ntmps75
          go_wp2
          go_ret
          exact ⟨by simp [a3], unhide HB0⟩
      · go_enter Tryz.func75, Tryz.ntmps75
        go_wp2
        go_ret
        exact ⟨by simp <;> omega, unhide HB0⟩
    · go_enter Tryz.func75, Tryz.ntmps75
      go_wp2
      go_ret
      exact ⟨by simp <;> omega, unhide HB0⟩
  have hN : mayN A k = 0 := by simp [mayN, e1, e2, e3, e4]
  rw [hN]
  clear hN c1
  have b1 : (k == 1) = false := by simp [e1]
  have b2 : (k == 2) = false := by simp [e2]
  have b3 : (k == 3) = false := by simp [e3]
  have b4 : (k == 4) = false := by simp [e4]
  clear e1 e2 e3 e4
  by_cases a1 : 0 ≤ n
  · have a2 : ¬ n < 0 := by omega
    go_enter Tryz.func75, Tryz.ntmps75
    go_wp2
    go_ret
    exact ⟨by simp <;> omega, unhide HB0⟩
  · go_enter Tryz.func75, Tryz.ntmps75
    go_wp2
    go_ret
    exact ⟨by simp <;> omega, unhide HB0⟩

set_option maxRecDepth 100000 in
set_option maxHeartbeats 4000000 in
theorem submit_no (vb : Nat) (A : VA) (O : List Nat) (k n : Int) (da : Option Addr) (dn dc : Nat) (w : World) (h : Vol w vb A O) (hs : A.state ≠ 2) (h1 : 4 ≤ A.stand.length) (h2 : A.stand.length ≤ 8) (hst : A.stripes ≤ 6) (hm : mayB A k n dn = false) :
    Calls Tryz.prog 41 #[.pointer (some ⟨vb, 0, none⟩), .agg #[.int .i64 k, .int .i64 n, .slice da dn dc]] w fun e w' => e = .returned (.tuple #[.int .i64 0, .int .i64 1]) ∧ Below w.heap.size w w' := by
  have hb0 := (Below.refl w.heap.size w).alloc (Nat.le_refl _) (.cells #[.int .i64 k, .int .i64 n, .slice da dn dc] 38)
  have hk0 := Blk.new w #[.int .i64 k, .int .i64 n, .slice da dn dc] 38
  have HM := hide (may_any vb A O k n da dn dc _ (h.new hb0) h1 h2 hst)
  rw [hm] at HM
  obtain ⟨G, hG, _⟩ := id (h.new hb0)
  have c2 : (w.alloc (.cells #[.int .i64 k, .int .i64 n, .slice da dn dc] 38)).cell? ⟨vb, 2, none⟩ = some (.int .i64 A.state) := hG.blk.cell 2
  have hb1 : (A.state == 2) = false := by simpa using hs
  have HB0 := hide hb0
  clear h hG hb0 hk0 hs h1 h2 hst hm
  go_enter Tryz.func41, Tryz.ntmps41
  go_wp2_with fail
  refine (unhide HM).mono ?_
  rintro e w1 ⟨rfl, hbb⟩
  have HB1 := hide ((unhide HB0).trans (hbb.mono (unhide HB0).size))
  clear hbb HM HB0 c2
  go_wp2
  refine bodyPost_ret (results_tmp2 rfl _ _ _) rfl ⟨rfl, unhide HB1⟩

end Go.Proofs.YtdcinlkkjbclmaaGreat
