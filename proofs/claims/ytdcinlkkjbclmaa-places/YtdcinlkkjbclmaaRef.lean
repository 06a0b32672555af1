/- The contracts of the document's own answer for places: Order, Find, Holds. -/
import Derived.Test.YtdcinlkkjbclmaaLow
import Derived.Deep.AppendLies
namespace Go.Proofs.Ytdcinlkkjbclmaa
open Go.RowKit

theorem Try.info3 : (Try.prog.info? 3).map (fun i => (i.zero, i.size, i.bytes)) = some (some (.int .i64 0), 1, 8) := by kernel_rfl

theorem hide {p : Prop} (h : p) : Hid p := h
theorem unhide {p : Prop} (h : Hid p) : p := h

theorem no_step {f : Nat → Int} {k : Int} {c : Nat} (h : ∀ j : Nat, j < c → f j ≠ k) (h' : f c ≠ k) : ∀ j : Nat, j < c + 1 → f j ≠ k := by
  intro j hj
  rcases Nat.lt_or_ge j c with h1 | h1
  · exact h j h1
  · obtain rfl : j = c := by omega
    exact h'

/-- the disk of column i: walking round from the one behind Q's -/
def ordAt (d s : Int) : Nat → Int
  | 0 => (d - 1 - s % d + 2) % d
  | i + 1 => (ordAt d s i + 1) % d

def ordRow (d s : Int) (k : Nat) : List Value := (List.range k).map fun i => .int .i64 (ordAt d s i)

theorem ordRow_snoc (d s : Int) (k : Nat) : ordRow d s (k + 1) = ordRow d s k ++ [.int .i64 (ordAt d s k)] := by
  simp [ordRow, List.range_succ]

theorem ordRow_at (d s : Int) (k i : Nat) (h : i < k) : (ordRow d s k)[i]? = some (.int .i64 (ordAt d s i)) := by
  simp [ordRow, h]

theorem ordAt_bd (d s : Int) (hd : 0 < d) (i : Nat) : 0 ≤ ordAt d s i ∧ ordAt d s i < d := by
  cases i with
  | zero => exact ⟨Int.emod_nonneg _ (by omega), Int.emod_lt_of_pos _ hd⟩
  | succ i => exact ⟨Int.emod_nonneg _ (by omega), Int.emod_lt_of_pos _ hd⟩

set_option maxHeartbeats 400000 in
theorem order_any (d s : Int) (w : World) (h1 : 4 ≤ d) (h2 : d ≤ 8) (h3 : 0 ≤ s) (h4 : s ≤ 5) :
    Calls Try.prog 10 #[.int .i64 d, .int .i64 s] w fun e w' => ∃ g cap : Nat, e = .returned (.slice (some ⟨g, 0, none⟩) d.toNat cap) ∧ w.heap.size ≤ g ∧ g < w'.heap.size ∧
      (∀ i : Nat, (i : Int) < d → w'.cell? ⟨g, i, none⟩ = some (.int .i64 (ordAt d s i))) ∧ Below w.heap.size w w' := by
  have h5 : 0 ≤ s % d := Int.emod_nonneg _ (by omega)
  have h6 : s % d < d := Int.emod_lt_of_pos _ (by omega)
  obtain ⟨i0, hi, hz0, hz1, hz2⟩ := info_parts Try.info3
  go_enter Try.func10, Try.ntmps10
  go_wp2
  go_loopw [6, 7, 8] (fun v c i wr => ∃ k : Nat, (k : Int) ≤ d ∧ i = .int .i64 k ∧ c = .int .i64 (ordAt d s k) ∧ wr.ownsRow w.heap.size 3 1 v k (ordRow d s k) ∧ Below w.heap.size w wr) (fun _ _ i _ => d.toNat - (intOf i).toNat)
  case atStart => exact ⟨0, by omega, rfl, rfl, World.ownsRow_nil _ _ _ _, Below.refl _ _⟩
  case round =>
    obtain ⟨k, hk, rfl, rfl, hown, hbel⟩ := hrel
    have hb := ordAt_bd d s (by omega) k
    obtain ⟨hb1, hb2⟩ := hb
    have hsz := hbel.size
    by_cases hlt : (k : Int) < d
    · go_wp2_with (at_builtin; refine wpList_append_own _ rfl _ _ 32 rfl w.heap.size 3 i0 (.int .i64 0) 1 8 Try.underlying32 hi hz0 hz1 hz2 rfl (by decide) _ _ _ rfl (hown.alloc _) ⟨wr.heap.size, 0, none⟩ 1 1 [.int .i64 (ordAt d s k)] rfl rfl (cell_one_new _ _ _) ?c2 ?c3 ?c4 ?c5 ?_)
      case c2 => intro u hu; simp at hu; subst hu; rfl
      case c3 => unfold maxLen; omega
      case c4 => omega
      case c5 => simp; omega
      intro v' w1 hown' hgrow _
      have hlt' := hown.lt
      have hbel' : Below w.heap.size w w1 := (hbel.alloc hsz _).grown hgrow (by simp; omega) (fun k hk => (hlt' k hk).1)
      clear hown hgrow hbel hlt'
      go_wp2
      go_roundw
      case rel => exact ⟨k + 1, by omega, by go_num, rfl, by rw [ordRow_snoc]; exact hown', hbel'⟩
      case measure => simp [intOf]; omega
    · obtain ⟨g, cap, rfl, hg1, hg2⟩ := hown.form (by omega)
      have hkd : k = d.toNat := by omega
      have HC : Hid (∀ i : Nat, (i : Int) < d → wr.cell? ⟨g, i, none⟩ = some (.int .i64 (ordAt d s i))) := by
        intro i hi
        rw [hown.cellAt i (by omega)]
        exact ordRow_at d s k i (by omega)
      have HK : Hid (k = d.toNat) := hkd
      clear hown hkd
      go_wp2
      go_ret
      exact ⟨g, ⟨cap, by rw [← HK.out]; rfl⟩, hg1, hg2, HC.out, hbel⟩

set_option maxHeartbeats 400000 in
theorem refHolds_out (d s k : Int) (w : World) (h : d < 4 ∨ 8 < d ∨ s < 0 ∨ 6 ≤ s) :
    Calls Try.prog 7 #[.int .i64 d, .int .i64 s, .int .i64 k] w fun e w' => e = .returned (.tuple #[.int .i64 0, .int .i64 1]) ∧ Below w.heap.size w w' := by
  by_cases c1 : d < 4
  · go_enter Try.func7, Try.ntmps7
    go_wp2
    go_ret2
    exact ⟨rfl, Below.refl _ _⟩
  · by_cases c2 : 8 < d
    · go_enter Try.func7, Try.ntmps7
      go_wp2
      go_ret2
      exact ⟨rfl, Below.refl _ _⟩
    · by_cases c3 : s < 0
      · go_enter Try.func7, Try.ntmps7
        go_wp2
        go_ret2
        exact ⟨rfl, Below.refl _ _⟩
      · have c4 : 6 ≤ s := by omega
        go_enter Try.func7, Try.ntmps7
        go_wp2
        go_ret2
        exact ⟨rfl, Below.refl _ _⟩

/-- the first column from c on whose disk is k; else none -/
def holdsAns (d s k : Int) : Value × Value := if 0 ≤ k ∧ k < d then (.int .i64 (colAt d s k), .int .i64 0) else (.int .i64 0, .int .i64 1)

set_option maxHeartbeats 400000 in
theorem refHolds_in (d s k : Int) (w : World) (h1 : 4 ≤ d) (h2 : d ≤ 8) (h3 : 0 ≤ s) (h4 : s ≤ 5)
    (hyes : ∀ c : Nat, (c : Int) < d → ordAt d s c = k → (holdsAns d s k) = (.int .i64 (c : Int), .int .i64 0))
    (hno : (∀ c : Nat, (c : Int) < d → ordAt d s c ≠ k) → (holdsAns d s k) = (.int .i64 0, .int .i64 1)) :
    Calls Try.prog 7 #[.int .i64 d, .int .i64 s, .int .i64 k] w fun e w' => e = .returned (.tuple #[(holdsAns d s k).1, (holdsAns d s k).2]) ∧ Below w.heap.size w w' := by
  have HY := hide hyes
  have HN := hide hno
  clear hyes hno
  go_enter Try.func7, Try.ntmps7
  go_wp2_with fail
  refine (order_any _ _ _ h1 h2 h3 h4).mono ?_
  rintro e w' ⟨g, cap, rfl, hg1, hg2, hc, hbel⟩
  have HC := hide hc
  clear hc
  go_wp2
  go_loop [9] (fun i => ∃ c : Nat, (c : Int) ≤ d ∧ i = .int .i64 c ∧ ∀ j : Nat, j < c → ordAt d s j ≠ k) (fun i => d.toNat - (intOf i).toNat)
  case atStart => exact ⟨0, by omega, rfl, by intro j hj; omega⟩
  case round =>
    obtain ⟨c, hcd, rfl, hj⟩ := hrel
    have HJ := hide hj
    clear hj
    by_cases hlt : (c : Int) < d
    · have hcell := (unhide HC) c hlt
      by_cases he : ordAt d s c = k
      · have he' : (ordAt d s c == k) = true := by simp [he]
        have hans := hide ((unhide HY) c hlt he)
        clear he
        go_wp2
        go_ret2
        rw [unhide hans]
        exact ⟨rfl, hbel⟩
      · have he' : (ordAt d s c == k) = false := by simp [he]
        have he2 := hide he
        clear he
        go_wp2
        go_round
        case rel => exact ⟨c + 1, by omega, by go_num, no_step (unhide HJ) (unhide he2)⟩
        case measure => simp [intOf]; omega
    · have hans := hide ((unhide HN) (fun c' hc' => (unhide HJ) c' (by omega)))
      go_wp2
      go_ret2
      rw [unhide hans]
      exact ⟨rfl, hbel⟩

/-! the document's Find -/
set_option maxHeartbeats 400000 in
theorem refFind_out (d b : Int) (w : World) (h : d < 4 ∨ 8 < d) :
    Calls Try.prog 5 #[.int .i64 d, .int .i64 b] w fun e w' => e = .returned (.tuple #[.agg #[.int .i64 0, .int .i64 0, .int .i64 0, .int .i64 0], .int .i64 1]) ∧ Below w.heap.size w w' := by
  by_cases c1 : d < 4
  · go_enter Try.func5, Try.ntmps5
    go_wp2
    exact bodyPost_ret (v := .tuple #[.agg #[.int .i64 0, .int .i64 0, .int .i64 0, .int .i64 0], .int .i64 1]) (by simp [results, Try.results5, go_sem]) rfl ⟨rfl, (Below.refl _ _).alloc (Nat.le_refl _) _⟩
  · have c2 : 8 < d := by omega
    go_enter Try.func5, Try.ntmps5
    go_wp2
    exact bodyPost_ret (v := .tuple #[.agg #[.int .i64 0, .int .i64 0, .int .i64 0, .int .i64 0], .int .i64 1]) (by simp [results, Try.results5, go_sem]) rfl ⟨rfl, (Below.refl _ _).alloc (Nat.le_refl _) _⟩

/-- the number of the first block of a stripe -/
def pk (d : Int) (k : Nat) : Int := (k : Int) * (d - 2)
theorem pk_zero (d : Int) : pk d 0 = 0 := by simp [pk]
theorem pk_succ (d : Int) (k : Nat) : pk d (k + 1) = pk d k + (d - 2) := by
  unfold pk
  rw [show ((k + 1 : Nat) : Int) = (k : Int) + 1 from by omega, Int.add_mul, Int.one_mul]
theorem pk_bd (d : Int) (k : Nat) (h1 : 4 ≤ d) (h2 : d ≤ 8) (hk : k ≤ 6) : 0 ≤ pk d k ∧ pk d k ≤ 36 := by
  unfold pk
  rcases (show d = 4 ∨ d = 5 ∨ d = 6 ∨ d = 7 ∨ d = 8 from by omega) with rfl | rfl | rfl | rfl | rfl <;> omega

def Found (d b : Int) (a : Value × Value × Value × Value × Value) : Prop :=
  (∀ s c : Nat, s < 6 → (c : Int) < d - 2 → pk d s + c = b → a = (.int .i64 s, .int .i64 c, .int .i64 (ordAt d s c), .int .i64 (17 + 2 * s), .int .i64 0)) ∧
  ((∀ s c : Nat, s < 6 → (c : Int) < d - 2 → pk d s + c ≠ b) → a = (.int .i64 0, .int .i64 0, .int .i64 0, .int .i64 0, .int .i64 1))

structure Box (w : World) (B : Nat) : Prop where
  c0 : w.cell? ⟨B, 0, none⟩ = some (.int .i64 0)
  c1 : w.cell? ⟨B, 1, none⟩ = some (.int .i64 0)
  c2 : w.cell? ⟨B, 2, none⟩ = some (.int .i64 0)
  c3 : w.cell? ⟨B, 3, none⟩ = some (.int .i64 0)
  f0 : w.frozen? ⟨B, 0, none⟩ = false
  f1 : w.frozen? ⟨B, 1, none⟩ = false
  f2 : w.frozen? ⟨B, 2, none⟩ = false
  f3 : w.frozen? ⟨B, 3, none⟩ = false

theorem Box.below {w w' : World} {B : Nat} (h : Box w B) (hB : B < w.heap.size) (hb : Below w.heap.size w w') : Box w' B :=
  ⟨(hb.cell (by exact hB)).trans h.c0, (hb.cell (by exact hB)).trans h.c1, (hb.cell (by exact hB)).trans h.c2, (hb.cell (by exact hB)).trans h.c3,
   (hb.frozen (by exact hB)).trans h.f0, (hb.frozen (by exact hB)).trans h.f1, (hb.frozen (by exact hB)).trans h.f2, (hb.frozen (by exact hB)).trans h.f3⟩

theorem Box.new (w : World) : Box (w.alloc (.cells #[.int .i64 0, .int .i64 0, .int .i64 0, .int .i64 0] 23)) w.heap.size := by
  constructor <;> simp

theorem no_next {d b : Int} {k : Nat} (h : ∀ s' c : Nat, s' < k → (c : Int) < d - 2 → pk d s' + c ≠ b) (h' : ∀ c : Nat, (c : Int) < d - 2 → pk d k + c ≠ b) :
    ∀ s' c : Nat, s' < k + 1 → (c : Int) < d - 2 → pk d s' + c ≠ b := by
  intro s' c hs hc
  rcases Nat.lt_or_ge s' k with h1 | h1
  · exact h s' c h1 hc
  · obtain rfl : s' = k := by omega
    exact h' c hc

set_option maxHeartbeats 800000 in
theorem refFind_in (d b : Int) (w : World) (h1 : 4 ≤ d) (h2 : d ≤ 8) (a0 a1 a2 a3 ae : Value) (hf : Found d b (a0, a1, a2, a3, ae)) :
    Calls Try.prog 5 #[.int .i64 d, .int .i64 b] w fun e w' => e = .returned (.tuple #[.agg #[a0, a1, a2, a3], ae]) ∧ Below w.heap.size w w' := by
  go_enter Try.func5, Try.ntmps5
  go_wp2
  go_loopw [6, 7] (fun n s wr => ∃ k : Nat, k ≤ 6 ∧ s = .int .i64 k ∧ n = .int .i64 (pk d k) ∧ (∀ s' c : Nat, s' < k → (c : Int) < d - 2 → pk d s' + c ≠ b) ∧ Below w.heap.size w wr ∧ w.heap.size < wr.heap.size ∧ Box wr w.heap.size) (fun _ s _ => 6 - (intOf s).toNat)
  case atStart => exact ⟨0, by omega, rfl, by rw [pk_zero], by intro s' c hs; omega, (Below.refl _ _).alloc (Nat.le_refl _) _, by simp, Box.new w⟩
  case round =>
    obtain ⟨k, hk, rfl, rfl, hno, hbel, hsz, hbox⟩ := hrel
    have HN := hide hno
    clear hno
    have hp := pk_bd d k h1 h2 hk
    obtain ⟨hp1, hp2⟩ := hp
    by_cases hlt : k < 6
    · go_wp2_with fail
      refine (order_any _ _ _ h1 h2 (by omega) (by omega)).mono ?_
      rintro e w1 ⟨g, cap, rfl, hg1, hg2, hc, hbel1⟩
      have HC := hide hc
      clear hc
      have hbox1 := hbox.below hsz hbel1
      have hbel2 := hbel.trans (hbel1.mono (Nat.le_of_lt hsz))
      have hsz2 := Nat.lt_of_lt_of_le hsz hbel1.size
      clear hbel hbel1 hbox
      go_wp2
      go_loop [6, 9] (fun n c => ∃ m : Nat, (m : Int) ≤ d - 2 ∧ c = .int .i64 m ∧ n = .int .i64 (pk d k + m) ∧ ∀ j : Nat, j < m → pk d k + j ≠ b) (fun _ c => d.toNat - (intOf c).toNat)
      case atStart => exact ⟨0, by omega, rfl, by simp, by intro j hj; omega⟩
      case round =>
        obtain ⟨m, hm, rfl, rfl, hj⟩ := hrel
        have HJ := hide hj
        clear hj
        by_cases hlm : (m : Int) < d - 2
        · have hcell := (unhide HC) m (by omega)
          by_cases he : pk d k + m = b
          · have he' : (pk d k + (m : Int) == b) = true := by simp [he]
            have hans := hf.1 k m hlt hlm he
            simp only [Prod.mk.injEq] at hans
            obtain ⟨rfl, rfl, rfl, rfl, rfl⟩ := hans
            clear he hf
            obtain ⟨b0, b1, b2, b3, f0, f1, f2, f3⟩ := hbox1
            go_wp2
            refine bodyPost_ret (v := .tuple #[.agg #[.int .i64 k, .int .i64 m, .int .i64 (ordAt d k m), .int .i64 (17 + 2 * k)], .int .i64 0]) (by simp [results, Try.results5, go_sem, *]) rfl ⟨rfl, ?_⟩
            exact (((hbel2.setCell (by simp) _).setCell (by simp) _).setCell (by simp) _).setCell (by simp) _
          · have he' : (pk d k + (m : Int) == b) = false := by simp [he]
            have he2 := hide he
            clear he
            go_wp2
            go_round
            case rel => exact ⟨m + 1, by omega, by go_num, by go_num, no_step (f := fun j => pk d k + j) (unhide HJ) (unhide he2)⟩
            case measure => simp [intOf]; omega
        · have hps := hide (pk_succ d k)
          go_wp2
          go_roundw
          case rel => exact ⟨k + 1, by omega, by go_num, by rw [unhide hps, show (m : Int) = d - 2 from by omega], no_next (unhide HN) (fun c hc => (unhide HJ) c (by omega)), hbel2, hsz2, hbox1⟩
          case measure => simp [intOf]; omega
    · have hans := hf.2 (fun s' c hs hc => (unhide HN) s' c (by omega) hc)
      simp only [Prod.mk.injEq] at hans
      obtain ⟨rfl, rfl, rfl, rfl, rfl⟩ := hans
      clear hf
      obtain ⟨b0, b1, b2, b3, f0, f1, f2, f3⟩ := hbox
      go_wp2
      refine bodyPost_ret (v := .tuple #[.agg #[.int .i64 0, .int .i64 0, .int .i64 0, .int .i64 0], .int .i64 1]) (by simp [results, Try.results5, go_sem, *]) rfl ⟨rfl, ?_⟩
      exact (((hbel.setCell (by simp) _).setCell (by simp) _).setCell (by simp) _).setCell (by simp) _

end Go.Proofs.Ytdcinlkkjbclmaa
