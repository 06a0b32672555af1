/- The field's arithmetic as package platterref reckons it. -/
import Derived.Test.YtdcinlkkjbclmaaDoorField
namespace Go.Proofs.YtdcinlkkjbclmaaDoor
open Go.RowKit

theorem bit_step (x k : Nat) : x % 2 ^ (k + 1) = x % 2 ^ k + (if x / 2 ^ k % 2 = 1 then 2 ^ k else 0) := by
  rw [Nat.mod_pow_succ]
  rcases Nat.mod_two_eq_zero_or_one (x / 2 ^ k) with h | h <;> simp [h]
theorem bit_xor (a b k : Nat) : (a ^^^ b) / 2 ^ k % 2 = if a / 2 ^ k % 2 = b / 2 ^ k % 2 then 0 else 1 := by
  have h : ∀ x : Nat, x / 2 ^ k % 2 = (x.testBit k).toNat := fun x => by rw [Nat.toNat_testBit]
  rw [h, h, h, Nat.testBit_xor]
  cases a.testBit k <;> cases b.testBit k <;> rfl

theorem xor_step (a b k : Nat) : (a ^^^ b) % 2 ^ (k + 1) = (a ^^^ b) % 2 ^ k + (if a / 2 ^ k % 2 = b / 2 ^ k % 2 then 0 else 2 ^ k) := by
  rw [bit_step, bit_xor]
  by_cases h : a / 2 ^ k % 2 = b / 2 ^ k % 2 <;> simp [h]

theorem pow_lt (k : Nat) (hk : k ≤ 8) : 2 ^ k ≤ 256 := by
  calc 2 ^ k ≤ 2 ^ 8 := Nat.pow_le_pow_right (by omega) hk
    _ = 256 := rfl

theorem wrap64_fits (x : Int) (h1 : -9223372036854775808 ≤ x) (h2 : x ≤ 9223372036854775807) : wrap64 x = x := by
  unfold wrap64
  omega

theorem quo_bit (x : Nat) (h : x < 256) : (wrap64 ((x : Nat) : Int)).tmod 2 = ((x % 2 : Nat) : Int) := by
  rw [wrap64_fits _ (by omega) (by omega), Int.tmod_eq_emod_of_nonneg (by omega)]
  rfl

set_option maxHeartbeats 2000000 in
theorem either_any (a b : Nat) (w : World) (ha : a < 256) (hb : b < 256) :
    Calls Tryd.prog 41 #[.int .i64 (a : Int), .int .i64 (b : Int)] w fun e w' => e = .returned (.int .i64 ((a ^^^ b : Nat) : Int)) ∧ Below w.heap.size w w' := by
  have hx : a ^^^ b < 256 := Nat.xor_lt_two_pow (n := 8) ha hb
  go_enter Tryd.func41, Tryd.ntmps41
  go_wp2
  go_loopw [5, 6, 7] (fun ov pv iv wr => ∃ k : Nat, k ≤ 8 ∧ iv = .int .i64 k ∧ pv = .int .i64 ((2 ^ k : Nat) : Int) ∧ ov = .int .i64 (((a ^^^ b) % 2 ^ k : Nat) : Int) ∧ Below w.heap.size w wr) (fun _ _ i _ => 8 - (intOf i).toNat)
  case atStart => exact ⟨0, by omega, rfl, rfl, by simp [Nat.mod_one], Below.refl _ _⟩
  case round =>
    obtain ⟨k, hk, rfl, rfl, rfl, hbw⟩ := hrel
    have hstep := xor_step a b k
    have hmod : (a ^^^ b) % 2 ^ k < 256 := Nat.lt_of_le_of_lt (Nat.mod_le _ _) hx
    generalize hX : a ^^^ b = X at *
    rcases Nat.lt_or_ge k 8 with hlt | hge
    · have hki : (k : Int) < 8 := by omega
      have hP := pow_lt k (by omega)
      have hP0 : 0 < 2 ^ k := Nat.pow_pos (by omega)
      have hPs : 2 ^ (k + 1) = 2 * 2 ^ k := by rw [Nat.pow_succ, Nat.mul_comm]
      have hP2 := pow_lt (k + 1) (by omega)
      rw [hPs] at hstep hP2
      have HPS := hide hPs
      clear hPs
      obtain ⟨p, hpe⟩ : ∃ p, 2 ^ k = p := ⟨_, rfl⟩
      rw [hpe] at hstep hP hP0 hP2 hmod HPS
      rw [hpe]
      have HPE := hide hpe
      clear hpe
      have l1 : a / p ≤ a := Nat.div_le_self _ _
      have l2 : b / p ≤ b := Nat.div_le_self _ _
      have hA : (wrap64 ((a : Int) / (p : Int))).tmod 2 = ((a / p % 2 : Nat) : Int) := quo_bit (a / p) (by omega)
      have hB : (wrap64 ((b : Int) / (p : Int))).tmod 2 = ((b / p % 2 : Nat) : Int) := quo_bit (b / p) (by omega)
      have HA := hide hA
      have HBB := hide hB
      have HST := hide hstep
      have HB := hide hbw
      obtain ⟨y, hy⟩ : ∃ y, X % p = y := ⟨_, rfl⟩
      rw [hy] at hmod HST
      rw [hy]
      clear hstep hbw hy hA hB l1 l2
      by_cases hbit : a / p % 2 = b / p % 2
      · have e1 : (((a / p % 2 : Nat) : Int) != ((b / p % 2 : Nat) : Int)) = false := by rw [hbit]; simp
        have HN : Hid (X % (2 * p) = y) := by have := unhide HST; rw [if_pos hbit] at this; exact this
        clear hbit HST
        go_wp2
        go_quiet (fail)
        rw [unhide HA, unhide HBB, e1]
        have HB2 := hide ((unhide HB).trans ((below_drewN (Below.refl wr.heap.size wr) nq).mono (unhide HB).size))
        generalize wr.drewN nq = wf at *
        clear e1 HA HBB HB
        go_wp2
        go_roundw
        case rel => exact ⟨k + 1, by omega, by go_num, by rw [unhide HPS]; go_num, by rw [unhide HPS, unhide HN], unhide HB2⟩
        case measure => simp [intOf]; omega
      · have e1 : (((a / p % 2 : Nat) : Int) != ((b / p % 2 : Nat) : Int)) = true := by rw [bne_iff_ne]; omega
        have HN : Hid (X % (2 * p) = y + p) := by have := unhide HST; rw [if_neg hbit] at this; exact this
        clear hbit HST
        go_wp2
        go_quiet (fail)
        rw [unhide HA, unhide HBB, e1]
        have HB2 := hide ((unhide HB).trans ((below_drewN (Below.refl wr.heap.size wr) nq).mono (unhide HB).size))
        generalize wr.drewN nq = wf at *
        clear e1 HA HBB HB
        go_wp2
        go_roundw
        case rel => exact ⟨k + 1, by omega, by go_num, by rw [unhide HPS]; go_num, by rw [unhide HPS, unhide HN]; go_num, unhide HB2⟩
        case measure => simp [intOf]; omega
    · obtain rfl : k = 8 := by omega
      have hXe : X % 2 ^ 8 = X := Nat.mod_eq_of_lt hx
      rw [hXe]
      have HB := hide hbw
      have HX := hide hX
      clear hbw hX hstep hXe hmod
      go_wp2
      go_ret
      refine ⟨?_, unhide HB⟩
      subst HX
      rfl

/-- a byte times 2 -/
def dblN (a : Nat) : Nat := if 255 < 2 * a then (2 * a - 256) ^^^ 29 else 2 * a
theorem dblN_lt (a : Nat) (h : a < 256) : dblN a < 256 := by
  unfold dblN
  split
  · exact Nat.xor_lt_two_pow (n := 8) (by omega) (by omega)
  · omega

set_option maxHeartbeats 1000000 in
theorem double_any (a : Nat) (w : World) (ha : a < 256) :
    Calls Tryd.prog 53 #[.int .i64 (a : Int)] w fun e w' => e = .returned (.int .i64 ((dblN a : Nat) : Int)) ∧ Below w.heap.size w w' := by
  by_cases h : 255 < 2 * a
  · have h1 : (255 : Int) < 2 * (a : Int) := by omega
    have hd : dblN a = (2 * a - 256) ^^^ 29 := if_pos h
    have he := either_any (2 * a - 256) 29 w (by omega) (by omega)
    rw [show ((2 * a - 256 : Nat) : Int) = 2 * (a : Int) - 256 by omega] at he
    have HE := hide he
    have HD := hide hd
    clear he hd
    go_enter Tryd.func53, Tryd.ntmps53
    go_wp2_with fail
    refine (unhide HE).mono ?_
    rintro e w1 ⟨rfl, hb1⟩
    have HB := hide hb1
    clear hb1 HE
    go_wp2
    go_ret
    exact ⟨by rw [unhide HD]; rfl, unhide HB⟩
  · have h1 : ¬ (255 : Int) < 2 * (a : Int) := by omega
    have hd : ((dblN a : Nat) : Int) = 2 * (a : Int) := by unfold dblN; rw [if_neg h]; omega
    have HD := hide hd
    clear hd
    go_enter Tryd.func53, Tryd.ntmps53
    go_wp2
    go_ret
    exact ⟨by rw [unhide HD]; rfl, Below.refl _ _⟩

/-- two bytes multiplied, bit by bit -/
def timesR : Nat → Nat → Nat → Nat → Nat
  | 0, out, _, _ => out
  | k + 1, out, a, b => timesR k (if b % 2 = 1 then out ^^^ a else out) (dblN a) (b / 2)
theorem timesR_zero (k out a : Nat) : timesR k out a 0 = out := by
  induction k generalizing out a with
  | zero => rfl
  | succ k ih => simp [timesR, ih]

set_option maxHeartbeats 2000000 in
theorem ref_times_any (a b : Nat) (w : World) (ha : a < 256) (hb : b < 256) :
    Calls Tryd.prog 43 #[.int .i64 (a : Int), .int .i64 (b : Int)] w fun e w' => e = .returned (.int .i64 ((timesR 8 0 a b : Nat) : Int)) ∧ Below w.heap.size w w' := by
  go_enter Tryd.func43, Tryd.ntmps43
  go_wp2
  obtain ⟨T, hT⟩ : ∃ T, timesR 8 0 a b = T := ⟨_, rfl⟩
  go_loopw [0, 1, 5] (fun av bv ov wr => ∃ k a' b' o' : Nat, av = .int .i64 (a' : Int) ∧ bv = .int .i64 (b' : Int) ∧ ov = .int .i64 (o' : Int) ∧ a' < 256 ∧ o' < 256 ∧ b' < 256 ∧ b' < 2 ^ k ∧ timesR k o' a' b' = T ∧ Below w.heap.size w wr) (fun _ i _ _ => (intOf i).toNat)
  case atStart => exact ⟨8, a, b, 0, rfl, rfl, rfl, ha, by omega, hb, hb, hT, Below.refl _ _⟩
  case round =>
    obtain ⟨k, a', b', o', rfl, rfl, rfl, ha', ho', hb', hbk, hTk, hbw⟩ := hrel
    have HB := hide hbw
    have HT := hide hT
    clear hbw hT
    rcases Nat.eq_zero_or_pos b' with rfl | hpos
    · rw [timesR_zero] at hTk
      subst hTk
      go_wp2
      go_ret
      exact ⟨by rw [unhide HT]; rfl, unhide HB⟩
    · have hbp : (0 : Int) < (b' : Int) := by omega
      obtain ⟨k, rfl⟩ : ∃ j, k = j + 1 := ⟨k - 1, by
        rcases Nat.eq_zero_or_pos k with h | h
        · subst h; simp at hbk; omega
        · omega⟩
      have hbk2 : b' / 2 < 2 ^ k := by rw [Nat.pow_succ] at hbk; omega
      have hdl := dblN_lt a' ha'
      have HTK := hide hTk
      have HBK := hide hbk2
      clear hTk hbk hbk2
      by_cases hodd : b' % 2 = 1
      · have ho : (b' : Int) % 2 = 1 := by omega
        have HTK2 : Hid (timesR k (o' ^^^ a') (dblN a') (b' / 2) = T) := by have := unhide HTK; rw [timesR, if_pos hodd] at this; exact this
        have hx : o' ^^^ a' < 256 := Nat.xor_lt_two_pow (n := 8) ho' ha'
        clear hodd HTK
        go_wp2_with fail
        refine (either_any o' a' _ ho' ha').mono ?_
        rintro e w1 ⟨rfl, hb1⟩
        have HB1 := hide ((unhide HB).trans (hb1.mono (unhide HB).size))
        clear hb1
        go_wp2_with fail
        refine (double_any a' _ ha').mono ?_
        rintro e w2 ⟨rfl, hb2⟩
        have HB2 := hide ((unhide HB1).trans (hb2.mono (unhide HB1).size))
        clear hb2 HB1
        go_wp2
        go_roundw
        case rel => exact ⟨k, dblN a', b' / 2, o' ^^^ a', rfl, by go_num, rfl, hdl, hx, by omega, unhide HBK, unhide HTK2, unhide HB2⟩
        case measure => simp [intOf]; omega
      · have ho : ¬ (b' : Int) % 2 = 1 := by omega
        have hbe : ((b' : Int) % 2 == 1) = false := by rw [beq_eq_false_iff_ne]; exact ho
        have HTK2 : Hid (timesR k o' (dblN a') (b' / 2) = T) := by have := unhide HTK; rw [timesR, if_neg hodd] at this; exact this
        clear hodd HTK
        go_wp2_with fail
        refine (double_any a' _ ha').mono ?_
        rintro e w2 ⟨rfl, hb2⟩
        have HB2 := hide ((unhide HB).trans (hb2.mono (unhide HB).size))
        clear hb2
        go_wp2
        go_roundw
        case rel => exact ⟨k, dblN a', b' / 2, o', rfl, by go_num, rfl, hdl, ho', by omega, unhide HBK, unhide HTK2, unhide HB2⟩
        case measure => simp [intOf]; omega

/-- what the program's field and the document's make of a byte and a power are the same -/
theorem times_all : ((List.range 256).all fun y => (List.range 6).all fun x => decide (timesR 8 0 y (powN x) = gmul y (powN x))) = true := by decide +kernel
theorem times_at (y x : Nat) (hy : y < 256) (hx : x < 6) : timesR 8 0 y (powN x) = gmul y (powN x) :=
  of_decide_eq_true (List.all_eq_true.1 (List.all_eq_true.1 times_all y (List.mem_range.2 hy)) x (List.mem_range.2 hx))
theorem dbl_all : ((List.range 5).all fun x => decide (dblN (powN x) = powN (x + 1))) = true := by decide +kernel
theorem dbl_at (x : Nat) (hx : x < 5) : dblN (powN x) = powN (x + 1) := of_decide_eq_true (List.all_eq_true.1 dbl_all x (List.mem_range.2 hx))
theorem powN_lt' (k : Nat) (hk : k < 6) : powN k < 256 := by
  rcases (show k = 0 ∨ k = 1 ∨ k = 2 ∨ k = 3 ∨ k = 4 ∨ k = 5 from by omega) with rfl | rfl | rfl | rfl | rfl | rfl <;> decide

set_option maxHeartbeats 1000000 in
theorem ref_power_any (n : Nat) (w : World) (hn : n < 6) :
    Calls Tryd.prog 42 #[.int .i64 (n : Int)] w fun e w' => e = .returned (.int .i64 ((powN n : Nat) : Int)) ∧ Below w.heap.size w w' := by
  go_enter Tryd.func42, Tryd.ntmps42
  go_wp2
  go_loopw [3, 4] (fun pv iv wr => ∃ k : Nat, k ≤ n ∧ iv = .int .i64 k ∧ pv = .int .i64 ((powN k : Nat) : Int) ∧ Below w.heap.size w wr) (fun _ i _ => n - (intOf i).toNat)
  case atStart => exact ⟨0, Nat.zero_le _, rfl, rfl, Below.refl _ _⟩
  case round =>
    obtain ⟨k, hk, rfl, rfl, hbw⟩ := hrel
    have HB := hide hbw
    clear hbw
    rcases Nat.lt_or_ge k n with hlt | hge
    · have hki : (k : Int) < (n : Int) := by omega
      have HD := hide (dbl_at k (by omega))
      go_wp2_with fail
      refine (double_any (powN k) _ (powN_lt' k (by omega))).mono ?_
      rintro e w1 ⟨rfl, hb1⟩
      have HB1 := hide ((unhide HB).trans (hb1.mono (unhide HB).size))
      clear hb1
      rw [unhide HD]
      go_wp2
      go_roundw
      case rel => exact ⟨k + 1, by omega, by go_num, rfl, unhide HB1⟩
      case measure => simp [intOf]; omega
    · obtain rfl : k = n := by omega
      go_wp2
      go_ret
      exact ⟨rfl, unhide HB⟩

/-- P and Q at one place -/
def sumP (ds : List Nat) : Nat → Nat
  | 0 => 0
  | k + 1 => sumP ds k ^^^ ds.getD k 0
def sumQ (ds : List Nat) : Nat → Nat
  | 0 => 0
  | k + 1 => sumQ ds k ^^^ gmul (ds.getD k 0) (powN k)
theorem sumP_lt (ds : List Nat) (h : ∀ i, ds.getD i 0 < 256) (k : Nat) : sumP ds k < 256 := by
  induction k with
  | zero => exact (by decide : (0 : Nat) < 256)
  | succ k ih => exact Nat.xor_lt_two_pow (n := 8) ih (h k)
theorem sumQ_lt (ds : List Nat) (k : Nat) : sumQ ds k < 256 := by
  induction k with
  | zero => exact (by decide : (0 : Nat) < 256)
  | succ k ih => exact Nat.xor_lt_two_pow (n := 8) ih (gmul_lt _ _)

end Go.Proofs.YtdcinlkkjbclmaaDoor
