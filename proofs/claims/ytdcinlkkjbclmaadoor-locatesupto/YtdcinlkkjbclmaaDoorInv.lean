/- The contract of field.Inverse. -/
import Derived.Test.YtdcinlkkjbclmaaDoorField
namespace Go.Proofs.YtdcinlkkjbclmaaDoor
open Go.RowKit

/-! ### Inverse -/
def sqN (a : Nat) : Nat → Nat
  | 0 => a
  | k + 1 => gmul (sqN a k) (sqN a k)
def invN (a : Nat) : Nat → Nat
  | 0 => 1
  | k + 1 => gmul (invN a k) (sqN a (k + 1))
def ginv (a : Nat) : Nat := invN a 7
theorem sqN_lt (a k : Nat) (ha : a < 256) : sqN a k < 256 := by
  cases k with
  | zero => exact ha
  | succ k => exact gmul_lt _ _
theorem invN_lt (a k : Nat) : invN a k < 256 := by
  cases k with
  | zero => show (1 : Nat) < 256; decide
  | succ k => exact gmul_lt _ _
theorem ginv_lt (a : Nat) : ginv a < 256 := invN_lt a 7

set_option maxHeartbeats 400000 in
theorem inverse_any (a : Nat) (w : World) (ha : a < 256) (ht : Tabs w) :
    Calls Tryd.prog 47 #[B a] w fun e w' => e = .returned (B (ginv a)) ∧ w' = w := by
  go_enter Tryd.func47, Tryd.ntmps47
  go_wp2
  go_loop [3, 4, 6] (fun v s i => ∃ k : Nat, k ≤ 7 ∧ i = .int .i64 k ∧ v = B (invN a k) ∧ s = B (sqN a k)) (fun _ _ i => 7 - (intOf i).toNat)
  case atStart => exact ⟨0, by omega, rfl, rfl, rfl⟩
  case round =>
    obtain ⟨k, hk, rfl, rfl, rfl⟩ := hrel
    by_cases hlt : k < 7
    · go_wp2_with fail
      refine (times_any (sqN a k) (sqN a k) _ (sqN_lt a k ha) (sqN_lt a k ha) ht).mono ?_
      rintro e w' ⟨rfl, rfl⟩
      go_wp2_with fail
      refine (times_any (invN a k) (sqN a (k + 1)) _ (invN_lt a k) (sqN_lt a (k + 1) ha) ht).mono ?_
      rintro e w' ⟨rfl, rfl⟩
      go_wp2
      go_round
      case rel => exact ⟨k + 1, by omega, by go_num, rfl, rfl⟩
      case measure => simp [intOf]; omega
    · obtain rfl : k = 7 := by omega
      go_wp2
      go_ret
      exact ⟨rfl, rfl⟩

end Go.Proofs.YtdcinlkkjbclmaaDoor
