/- The contracts of the small functions of the program that Places goes through: what each answers, the world unturned. -/
import Derived.Test.YtdcinlkkjbclmabRows
import Derived.WalkKit
import Derived.WalkSpells
import Derived.WalkLawsBesides
import Derived.BigQuiet
namespace Go.Proofs.Ytdcinlkkjbclmab
open Go.RowKit

theorem bcell {W w1 : World} (hb : Below W.heap.size W w1) : (∀ b o, b < W.heap.size → w1.cell? ⟨b, o, none⟩ = W.cell? ⟨b, o, none⟩) ∧ (∀ b o, b < W.heap.size → w1.frozen? ⟨b, o, none⟩ = W.frozen? ⟨b, o, none⟩) :=
  ⟨fun b o h => hb.cell (p := ⟨b, o, none⟩) h, fun b o h => hb.frozen (p := ⟨b, o, none⟩) h⟩

def btw (n l h : Int) : Bool := decide (l ≤ n ∧ n ≤ h)

set_option maxHeartbeats 400000 in
theorem between_any (n l h : Int) (w : World) :
    Calls Try.prog 7 #[.int .i64 n, .int .i64 l, .int .i64 h] w fun e w' => e = .returned (.bool (btw n l h)) ∧ w' = w := by
  by_cases h1 : l ≤ n
  · by_cases h2 : n ≤ h
    · have hb : btw n l h = true := by simp [btw, h1, h2]
      rw [hb]; clear hb
      go_enter Try.func7, Try.ntmps7
      go_wp2
      go_ret
      exact ⟨rfl, rfl⟩
    · have hb : btw n l h = false := by simp [btw, h2]
      rw [hb]; clear hb
      go_enter Try.func7, Try.ntmps7
      go_wp2
      go_ret
      exact ⟨rfl, rfl⟩
  · have hb : btw n l h = false := by simp [btw, h1]
    rw [hb]; clear hb
    go_enter Try.func7, Try.ntmps7
    go_wp2
    go_ret
    exact ⟨rfl, rfl⟩

set_option maxHeartbeats 400000 in
theorem diskOfP_any (d s : Int) (w : World) (h1 : 4 ≤ d) (h2 : d ≤ 8) (h3 : 0 ≤ s) (h4 : s ≤ 5) :
    Calls Try.prog 10 #[.int .i64 d, .int .i64 s] w fun e w' => e = .returned (.int .i64 (d - 1 - s % d)) ∧ w' = w := by
  have h5 : 0 ≤ s % d := Int.emod_nonneg _ (by omega)
  have h6 : s % d < d := Int.emod_lt_of_pos _ (by omega)
  go_enter Try.func10, Try.ntmps10
  go_wp2
  go_ret
  exact ⟨rfl, rfl⟩

def pAt (d s : Int) : Int := d - 1 - s % d
def dskAt (d s c : Int) : Int := (d - 1 - s % d + 2 + c) % d
def colAt (d s k : Int) : Int := ((k - (d - 1 - s % d)) % d + d - 2) % d

set_option maxHeartbeats 400000 in
theorem disk_any (d s c : Int) (w : World) (h1 : 4 ≤ d) (h2 : d ≤ 8) (h3 : 0 ≤ s) (h4 : s ≤ 5) (h5 : 0 ≤ c) (h6 : c ≤ 8) :
    Calls Try.prog 11 #[.int .i64 d, .int .i64 s, .int .i64 c] w fun e w' => e = .returned (.int .i64 (dskAt d s c)) ∧ w' = w := by
  have h7 : 0 ≤ s % d := Int.emod_nonneg _ (by omega)
  have h8 : s % d < d := Int.emod_lt_of_pos _ (by omega)
  unfold dskAt
  go_enter Try.func11, Try.ntmps11
  go_wp2_with (go_at_call 10; refine (diskOfP_any _ _ _ h1 h2 h3 h4).mono ?_; rintro e w' ⟨rfl, rfl⟩)
  go_ret
  exact ⟨rfl, rfl⟩

set_option maxHeartbeats 400000 in
theorem sector_any (s : Int) (w : World) (h3 : 0 ≤ s) (h4 : s ≤ 5) :
    Calls Try.prog 12 #[.int .i64 s] w fun e w' => e = .returned (.int .i64 (17 + 2 * s)) ∧ w' = w := by
  go_enter Try.func12, Try.ntmps12
  go_wp2
  go_ret
  exact ⟨rfl, rfl⟩

set_option maxHeartbeats 400000 in
theorem column_any (d s k : Int) (w : World) (h1 : 4 ≤ d) (h2 : d ≤ 8) (h3 : 0 ≤ s) (h4 : s ≤ 5) (h5 : 0 ≤ k) (h6 : k < d) :
    Calls Try.prog 8 #[.int .i64 d, .int .i64 s, .int .i64 k] w fun e w' => e = .returned (.int .i64 (colAt d s k)) ∧ w' = w := by
  have h7 : 0 ≤ s % d := Int.emod_nonneg _ (by omega)
  have h8 : s % d < d := Int.emod_lt_of_pos _ (by omega)
  have h9 : 0 ≤ (k - (d - 1 - s % d)) % d := Int.emod_nonneg _ (by omega)
  have h10 : (k - (d - 1 - s % d)) % d < d := Int.emod_lt_of_pos _ (by omega)
  unfold colAt
  go_enter Try.func8, Try.ntmps8
  go_wp2_with (go_at_call 10; refine (diskOfP_any _ _ _ h1 h2 h3 h4).mono ?_; rintro e w' ⟨rfl, rfl⟩)
  go_ret
  exact ⟨rfl, rfl⟩

set_option maxHeartbeats 400000 in
theorem find_no (d b : Int) (w : World) (h : btw d 4 8 = false ∨ (btw d 4 8 = true ∧ btw b 0 (6 * (d - 2) - 1) = false)) :
    Calls Try.prog 6 #[.int .i64 d, .int .i64 b] w fun e w' => e = .returned (.tuple #[.agg #[.int .i64 0, .int .i64 0, .int .i64 0, .int .i64 0], .int .i64 1]) ∧ Below w.heap.size w w' := by
  rcases h with h | ⟨h, h'⟩
  · go_enter Try.func6, Try.ntmps6
    go_wp2_with (go_at_call 7; refine (between_any _ _ _ _).mono ?_; rintro e w' ⟨rfl, rfl⟩)
    exact bodyPost_ret (v := .tuple #[.agg #[.int .i64 0, .int .i64 0, .int .i64 0, .int .i64 0], .int .i64 1]) (by simp [results, Try.results6, go_sem]) rfl ⟨rfl, (Below.refl _ _).alloc (Nat.le_refl _) _⟩
  · have hd : 4 ≤ d ∧ d ≤ 8 := by simpa [btw] using h
    obtain ⟨hd1, hd2⟩ := hd
    go_enter Try.func6, Try.ntmps6
    go_wp2_with (go_at_call 7; refine (between_any _ _ _ _).mono ?_; rintro e w' ⟨rfl, rfl⟩)
    exact bodyPost_ret (v := .tuple #[.agg #[.int .i64 0, .int .i64 0, .int .i64 0, .int .i64 0], .int .i64 1]) (by simp [results, Try.results6, go_sem]) rfl ⟨rfl, (Below.refl _ _).alloc (Nat.le_refl _) _⟩

set_option maxHeartbeats 400000 in
theorem block_any (d b : Int) (w : World) (h1 : 4 ≤ d) (h2 : d ≤ 8) (h3 : 0 ≤ b) (h4 : b ≤ 6 * (d - 2) - 1) :
    Calls Try.prog 9 #[.int .i64 d, .int .i64 b] w fun e w' => e = .returned (.agg #[.int .i64 (b / (d - 2)), .int .i64 (b % (d - 2)), .int .i64 (dskAt d (b / (d - 2)) (b % (d - 2))), .int .i64 (17 + 2 * (b / (d - 2)))]) ∧ Below w.heap.size w w' := by
  have q1 : 0 ≤ b / (d - 2) := Int.ediv_nonneg h3 (by omega)
  have q2 : b / (d - 2) ≤ 5 := by
    have : b / (d - 2) < 6 := Int.ediv_lt_of_lt_mul (by omega) (by omega)
    omega
  have q3 : 0 ≤ b % (d - 2) := Int.emod_nonneg _ (by omega)
  have q4 : b % (d - 2) < d - 2 := Int.emod_lt_of_pos _ (by omega)
  go_enter Try.func9, Try.ntmps9
  go_wp2_with fail
  go_quiet (fail)
  go_wp2_with (first | (go_at_call 11; refine (disk_any _ _ _ _ h1 h2 q1 q2 q3 (by omega)).mono ?_; rintro e w' ⟨rfl, rfl⟩) | (go_at_call 12; refine (sector_any _ _ q1 q2).mono ?_; rintro e w' ⟨rfl, rfl⟩))
  refine bodyPost_ret (v := .agg #[.int .i64 (b / (d - 2)), .int .i64 (b % (d - 2)), .int .i64 (dskAt d (b / (d - 2)) (b % (d - 2))), .int .i64 (17 + 2 * (b / (d - 2)))]) (by simp [results, Try.results9, go_sem]) rfl ⟨rfl, ?_⟩
  exact ((((below_drewN ((Below.refl _ _).alloc (Nat.le_refl _) _) nq).setCell (by simp) _).setCell (by simp) _).setCell (by simp) _).setCell (by simp) _

set_option maxHeartbeats 400000 in
theorem find_yes (d b : Int) (w : World) (h1 : 4 ≤ d) (h2 : d ≤ 8) (h3 : 0 ≤ b) (h4 : b ≤ 6 * (d - 2) - 1) :
    Calls Try.prog 6 #[.int .i64 d, .int .i64 b] w fun e w' => e = .returned (.tuple #[.agg #[.int .i64 (b / (d - 2)), .int .i64 (b % (d - 2)), .int .i64 (dskAt d (b / (d - 2)) (b % (d - 2))), .int .i64 (17 + 2 * (b / (d - 2)))], .int .i64 0]) ∧ Below w.heap.size w w' := by
  have k1 : btw d 4 8 = true := by simp [btw]; omega
  have k2 : btw b 0 (6 * (d - 2) - 1) = true := by simp [btw]; omega
  go_enter Try.func6, Try.ntmps6
  go_wp2_with (go_at_call 7; refine (between_any _ _ _ _).mono ?_; rintro e w' ⟨rfl, rfl⟩)
  refine (block_any _ _ _ h1 h2 h3 h4).mono ?_
  rintro e w' ⟨rfl, hbl⟩
  obtain ⟨hc, hf⟩ := bcell hbl
  have hz : w.heap.size < w'.heap.size := by have := hbl.size; simp at this; omega
  go_wp2
  exact bodyPost_ret (v := .tuple #[.agg #[.int .i64 (b / (d - 2)), .int .i64 (b % (d - 2)), .int .i64 (dskAt d (b / (d - 2)) (b % (d - 2))), .int .i64 (17 + 2 * (b / (d - 2)))], .int .i64 0]) (by simp [results, Try.results6, go_sem, hc]) rfl ⟨rfl, ((((((Below.refl w.heap.size w).alloc (Nat.le_refl _) _).trans (hbl.mono (by simp))).setCell (by simp) _).setCell (by simp) _).setCell (by simp) _).setCell (by simp) _⟩

set_option maxHeartbeats 400000 in
theorem holds_no (d s k : Int) (w : World) (h : btw d 4 8 = false ∨ (btw d 4 8 = true ∧ (btw s 0 5 = false ∨ (btw s 0 5 = true ∧ btw k 0 (d - 1) = false)))) :
    Calls Try.prog 5 #[.int .i64 d, .int .i64 s, .int .i64 k] w fun e w' => e = .returned (.tuple #[.int .i64 0, .int .i64 1]) ∧ w' = w := by
  rcases h with h | ⟨h, h' | ⟨h', h''⟩⟩
  · go_enter Try.func5, Try.ntmps5
    go_wp2_with (go_at_call 7; refine (between_any _ _ _ _).mono ?_; rintro e w' ⟨rfl, rfl⟩)
    go_ret2
    exact ⟨rfl, rfl⟩
  · go_enter Try.func5, Try.ntmps5
    go_wp2_with (go_at_call 7; refine (between_any _ _ _ _).mono ?_; rintro e w' ⟨rfl, rfl⟩)
    go_ret2
    exact ⟨rfl, rfl⟩
  · have hd : 4 ≤ d ∧ d ≤ 8 := by simpa [btw] using h
    obtain ⟨hd1, hd2⟩ := hd
    go_enter Try.func5, Try.ntmps5
    go_wp2_with (go_at_call 7; refine (between_any _ _ _ _).mono ?_; rintro e w' ⟨rfl, rfl⟩)
    go_ret2
    exact ⟨rfl, rfl⟩

set_option maxHeartbeats 400000 in
theorem holds_yes (d s k : Int) (w : World) (h1 : 4 ≤ d) (h2 : d ≤ 8) (h3 : 0 ≤ s) (h4 : s ≤ 5) (h5 : 0 ≤ k) (h6 : k < d) :
    Calls Try.prog 5 #[.int .i64 d, .int .i64 s, .int .i64 k] w fun e w' => e = .returned (.tuple #[.int .i64 (colAt d s k), .int .i64 0]) ∧ w' = w := by
  have k1 : btw d 4 8 = true := by simp [btw]; omega
  have k2 : btw s 0 5 = true := by simp [btw]; omega
  have k3 : btw k 0 (d - 1) = true := by simp [btw]; omega
  go_enter Try.func5, Try.ntmps5
  go_wp2_with (first | (go_at_call 7; refine (between_any _ _ _ _).mono ?_; rintro e w' ⟨rfl, rfl⟩) | (go_at_call 8; refine (column_any _ _ _ _ h1 h2 h3 h4 h5 h6).mono ?_; rintro e w' ⟨rfl, rfl⟩))
  go_ret2
  exact ⟨rfl, rfl⟩

end Go.Proofs.Ytdcinlkkjbclmab
