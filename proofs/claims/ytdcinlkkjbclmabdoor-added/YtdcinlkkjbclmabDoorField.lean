/- The contracts of package field: product, Times, Power, Inverse, over worlds that hold its two tables; and the plain mathematics of the field. -/
import Derived.Test.YtdcinlkkjbclmabDoorProg
import Derived.WalkKit
import Derived.WalkSpells
import Derived.WalkLawsBesides
import Derived.BigQuiet
import Derived.Laws.BitsAllLaws
namespace Go.Proofs.YtdcinlkkjbclmabDoor
open Go.RowKit

theorem hide {p : Prop} (h : p) : Hid p := h
theorem unhide {p : Prop} (h : Hid p) : p := h

/-! ### the field, in plain numbers -/
def falN (k : Nat) : Nat := [29, 58, 116, 232, 205, 135, 19].getD k 0
def powN (k : Nat) : Nat := [1, 2, 4, 8, 16, 32].getD k 0
def prodN (a b : Nat) : Nat → Nat
  | 0 => 0
  | k + 1 => if b.testBit k = true then prodN a b k ^^^ (a <<< k) else prodN a b k
def foldN (w : Nat) : Nat → Nat
  | 0 => w % 256
  | k + 1 => if w.testBit (8 + k) = true then foldN w k ^^^ falN k else foldN w k
def gmul (a b : Nat) : Nat := foldN (prodN a b 8) 7

theorem prodN_lt (a b : Nat) (ha : a < 256) (k : Nat) (hk : k ≤ 8) : prodN a b k < 65536 := by
  induction k with
  | zero => simp [prodN]
  | succ k ih =>
    have := ih (by omega)
    simp only [prodN]
    split
    · refine Nat.xor_lt_two_pow (n := 16) this ?_
      rw [Nat.shiftLeft_eq]
      have : 2 ^ k ≤ 2 ^ 7 := Nat.pow_le_pow_right (by omega) (by omega)
      have h2 : a * 2 ^ k ≤ 255 * 2 ^ 7 := Nat.mul_le_mul (by omega) this
      omega
    · exact this
theorem falN_lt (k : Nat) : falN k < 256 := by
  unfold falN
  match k with
  | 0 => decide
  | 1 => decide
  | 2 => decide
  | 3 => decide
  | 4 => decide
  | 5 => decide
  | 6 => decide
  | k + 7 => simp
theorem foldN_lt (w k : Nat) : foldN w k < 256 := by
  induction k with
  | zero => simp only [foldN]; omega
  | succ k ih =>
    simp only [foldN]
    split
    · exact Nat.xor_lt_two_pow (n := 8) ih (falN_lt k)
    · exact ih
theorem gmul_lt (a b : Nat) : gmul a b < 256 := foldN_lt _ _

theorem xor_swap (a b c d : Nat) : (a ^^^ b) ^^^ (c ^^^ d) = (a ^^^ c) ^^^ (b ^^^ d) := by
  rw [Nat.xor_assoc, Nat.xor_assoc, ← Nat.xor_assoc b c d, Nat.xor_comm b c, Nat.xor_assoc c b d]
theorem prodN_xor (a a' b k : Nat) : prodN (a ^^^ a') b k = prodN a b k ^^^ prodN a' b k := by
  induction k with
  | zero => simp [prodN]
  | succ k ih =>
    simp only [prodN]
    split
    · rw [ih, Nat.shiftLeft_xor_distrib, xor_swap]
    · exact ih
theorem foldN_xor (w w' k : Nat) : foldN (w ^^^ w') k = foldN w k ^^^ foldN w' k := by
  induction k with
  | zero => simp only [foldN]; exact Nat.xor_mod_two_pow (n := 8)
  | succ k ih =>
    simp only [foldN, Nat.testBit_xor, ih]
    cases w.testBit (8 + k) <;> cases w'.testBit (8 + k) <;> simp
    · rw [Nat.xor_assoc]
    · rw [Nat.xor_assoc, Nat.xor_comm (foldN w' k), ← Nat.xor_assoc]
    · rw [xor_swap]; simp
theorem gmul_xor (a a' b : Nat) : gmul (a ^^^ a') b = gmul a b ^^^ gmul a' b := by
  unfold gmul
  rw [prodN_xor, foldN_xor]

/-! ### the walks -/
def B (n : Nat) : Value := .int .u8 (n : Int)

theorem bit_test (b k : Nat) (hb : b < 256) : (bits BinOp.and IntKind.u8 ((b : Int) / 2 ^ k) 1 == 1) = b.testBit k := by
  have e : ((b : Int) / 2 ^ k) = ((b / 2 ^ k : Nat) : Int) := by simp
  have hlt : b / 2 ^ k < 256 := Nat.lt_of_le_of_lt (Nat.div_le_self _ _) hb
  rw [e, show (1 : Int) = ((1 : Nat) : Int) from rfl, u8_and_nat _ _ hlt (by omega), Nat.testBit_eq_decide_div_mod_eq, Nat.and_one_is_mod]
  rw [Bool.eq_iff_iff]
  simp
  omega
theorem bit_test16 (b k : Nat) (hb : b < 65536) : (bits BinOp.and IntKind.u16 ((b : Int) / 2 ^ k) 1 == 1) = b.testBit k := by
  have e : ((b : Int) / 2 ^ k) = ((b / 2 ^ k : Nat) : Int) := by simp
  have hlt : b / 2 ^ k < 65536 := Nat.lt_of_le_of_lt (Nat.div_le_self _ _) hb
  rw [e, show (1 : Int) = ((1 : Nat) : Int) from rfl, u16_and_nat _ _ hlt (by omega), Nat.testBit_eq_decide_div_mod_eq, Nat.and_one_is_mod]
  rw [Bool.eq_iff_iff]
  simp
  omega
theorem xor16 (z a k : Nat) (hz : z < 65536) (ha : a < 256) (hk : k < 8) : bits BinOp.xor IntKind.u16 (z : Int) (IntKind.u16.wrap ((a : Int) * 2 ^ k)) = ((z ^^^ (a <<< k) : Nat) : Int) := by
  have hlt : a * 2 ^ k < 65536 := by
    have : 2 ^ k ≤ 2 ^ 7 := Nat.pow_le_pow_right (by omega) (by omega)
    have h2 : a * 2 ^ k ≤ 255 * 2 ^ 7 := Nat.mul_le_mul (by omega) this
    omega
  rw [IntKind.wrap_u16, show ((a : Int) * 2 ^ k) = ((a * 2 ^ k : Nat) : Int) from by simp, Int.emod_eq_of_lt (by omega) (by omega), u16_xor_nat _ _ hz hlt, Nat.shiftLeft_eq]

set_option maxHeartbeats 400000 in
theorem product_any (a b : Nat) (w : World) (ha : a < 256) (hb : b < 256) :
    Calls Tryd.prog 23 #[B a, B b] w fun e w' => e = .returned (.int .u16 ((prodN a b 8 : Nat) : Int)) ∧ w' = w := by
  unfold B
  go_enter Tryd.func23, Tryd.ntmps23
  go_wp2
  go_loop [5, 7] (fun s i => ∃ k : Nat, k ≤ 8 ∧ i = .int .i64 k ∧ s = .int .u16 ((prodN a b k : Nat) : Int)) (fun _ i => 8 - (intOf i).toNat)
  case atStart => exact ⟨0, by omega, rfl, rfl⟩
  case round =>
    obtain ⟨k, hk, rfl, rfl⟩ := hrel
    by_cases hlt : k < 8
    · have ht := bit_test b k hb
      have hx := xor16 (prodN a b k) a k (prodN_lt a b ha k hk) ha hlt
      cases hbit : b.testBit k with
      | true =>
        rw [hbit] at ht
        have HP : Hid (((prodN a b k ^^^ (a <<< k) : Nat) : Int) = ((prodN a b (k + 1) : Nat) : Int)) := hide (by simp [prodN, hbit])
        have HX := hide hx
        clear hbit hx
        go_wp2
        go_round
        case rel => exact ⟨k + 1, by omega, by go_num, by rw [unhide HX, unhide HP]⟩
        case measure => simp [intOf]; omega
      | false =>
        rw [hbit] at ht
        have HP : Hid (((prodN a b k : Nat) : Int) = ((prodN a b (k + 1) : Nat) : Int)) := hide (by simp [prodN, hbit])
        clear hbit hx
        go_wp2
        go_round
        case rel => exact ⟨k + 1, by omega, by go_num, by rw [unhide HP]⟩
        case measure => simp [intOf]; omega
    · obtain rfl : k = 8 := by omega
      go_wp2
      go_ret
      exact ⟨rfl, rfl⟩

/-- the two tables of package field lie where the program keeps them -/
structure Tabs (w : World) : Prop where
  size : 2 ≤ w.heap.size
  fal : ∀ i : Nat, i < 7 → w.cell? ⟨1, i, none⟩ = some (B (falN i))
  pow : ∀ i : Nat, i < 6 → w.cell? ⟨0, i, none⟩ = some (B (powN i))

theorem Tabs.below {w w' : World} {n : Nat} (h : Tabs w) (hn : 2 ≤ n) (hb : Below n w w') : Tabs w' :=
  ⟨Nat.le_trans h.size hb.size, fun i hi => (hb.cell (show (_ : Nat) < n by simp only; omega)).trans (h.fal i hi), fun i hi => (hb.cell (show (_ : Nat) < n by simp only; omega)).trans (h.pow i hi)⟩

set_option maxHeartbeats 400000 in
theorem power_any (c : Nat) (w : World) (hc : c < 6) (ht : Tabs w) :
    Calls Tryd.prog 19 #[.int .i64 (c : Int)] w fun e w' => e = .returned (B (powN c)) ∧ w' = w := by
  have hp := ht.pow c hc
  unfold B at *
  clear ht
  go_enter Tryd.func19, Tryd.ntmps19
  go_wp2
  go_ret
  exact ⟨rfl, rfl⟩

theorem fal_index (k : Nat) (hk : k < 7) (w : World) : (Instr.index 57 (.agg #[.int .u8 29, .int .u8 58, .int .u8 116, .int .u8 232, .int .u8 205, .int .u8 135, .int .u8 19]) (.int .i64 (k : Int))).run Tryd.prog w = .ok (.int .u8 (falN k : Int)) w := by
  rcases (show k = 0 ∨ k = 1 ∨ k = 2 ∨ k = 3 ∨ k = 4 ∨ k = 5 ∨ k = 6 from by omega) with rfl | rfl | rfl | rfl | rfl | rfl | rfl <;> kernel_rfl

theorem low_wrap (z : Nat) : IntKind.u8.wrap (z : Int) = ((z % 256 : Nat) : Int) := by rw [IntKind.wrap_u8']; simp

set_option maxHeartbeats 400000 in
theorem times_any (a b : Nat) (w : World) (ha : a < 256) (hb : b < 256) (ht : Tabs w) :
    Calls Tryd.prog 22 #[B a, B b] w fun e w' => e = .returned (B (gmul a b)) ∧ w' = w := by
  have f0 : w.cell? ⟨1, 0, none⟩ = some (.int .u8 29) := ht.fal 0 (by omega)
  have f1 : w.cell? ⟨1, 1, none⟩ = some (.int .u8 58) := ht.fal 1 (by omega)
  have f2 : w.cell? ⟨1, 2, none⟩ = some (.int .u8 116) := ht.fal 2 (by omega)
  have f3 : w.cell? ⟨1, 3, none⟩ = some (.int .u8 232) := ht.fal 3 (by omega)
  have f4 : w.cell? ⟨1, 4, none⟩ = some (.int .u8 205) := ht.fal 4 (by omega)
  have f5 : w.cell? ⟨1, 5, none⟩ = some (.int .u8 135) := ht.fal 5 (by omega)
  have f6 : w.cell? ⟨1, 6, none⟩ = some (.int .u8 19) := ht.fal 6 (by omega)
  clear ht
  have hpl := prodN_lt a b ha 8 (by omega)
  go_enter Tryd.func22, Tryd.ntmps22
  go_wp2_with fail
  refine (product_any a b _ ha hb).mono ?_
  rintro e w' ⟨rfl, rfl⟩
  generalize hz : prodN a b 8 = z at *
  have HZ := hide hz
  clear hz
  have hlw := low_wrap z
  go_wp2
  go_loop [6, 15] (fun l i => ∃ k : Nat, k ≤ 7 ∧ i = .int .i64 k ∧ l = .int .u8 ((foldN z k : Nat) : Int)) (fun _ i => 7 - (intOf i).toNat)
  case atStart => exact ⟨0, by omega, rfl, rfl⟩
  case round =>
    obtain ⟨k, hk, rfl, rfl⟩ := hrel
    clear f0 f1 f2 f3 f4 f5 f6 hlw
    by_cases hlt : k < 7
    · have hi := fal_index k hlt
      have ht := bit_test16 z (8 + k) hpl
      cases hbit : z.testBit (8 + k) with
      | true =>
        rw [hbit] at ht
        have HP : Hid (bits BinOp.xor IntKind.u8 (foldN z k : Int) (falN k : Int) = ((foldN z (k + 1) : Nat) : Int)) := hide (by rw [u8_xor_nat _ _ (foldN_lt z k) (falN_lt k)]; simp [foldN, hbit])
        clear hbit
        go_wp2
        go_round
        case rel => exact ⟨k + 1, by omega, by go_num, by rw [unhide HP]⟩
        case measure => simp [intOf]; omega
      | false =>
        rw [hbit] at ht
        have HP : Hid (((foldN z k : Nat) : Int) = ((foldN z (k + 1) : Nat) : Int)) := hide (by simp [foldN, hbit])
        clear hbit
        go_wp2
        go_round
        case rel => exact ⟨k + 1, by omega, by go_num, by rw [unhide HP]⟩
        case measure => simp [intOf]; omega
    · obtain rfl : k = 7 := by omega
      go_wp2
      go_ret
      exact ⟨by rw [B, gmul, unhide HZ]; rfl, rfl⟩

end Go.Proofs.YtdcinlkkjbclmabDoor
