/- Laid answers true: each disk has one column of each stripe, a block lies where its column does, parity goes round. -/
import Derived.Test.YtdcinlkkjbclmabLow
import Derived.ProofKit
import Derived.OpenShut
namespace Go.Proofs.Ytdcinlkkjbclmab
open Go.ChangeShapes Go.WideShapes Go.ChangeAt Go.RowKit

theorem hide {p : Prop} (h : p) : Hid p := h
theorem unhide {p : Prop} (h : Hid p) : p := h

def pickAt (c n : Int) : Int := (if c < 0 then -(c + 1) else c) % n
theorem pickAt_bd (c n : Int) (hn : 0 < n) : 0 ≤ pickAt c n ∧ pickAt c n < n := ⟨Int.emod_nonneg _ (by omega), Int.emod_lt_of_pos _ hn⟩

set_option maxHeartbeats 400000 in
theorem pick_any (c n : Int) (w : World) (hn : 0 < n) (hc1 : -9223372036854775808 ≤ c) (hc2 : c ≤ 9223372036854775807) (hn2 : n ≤ 1000000000000000) :
    Calls Try.prog 4 #[.int .i64 c, .int .i64 n] w fun e w' => e = .returned (.int .i64 (pickAt c n)) ∧ w' = w := by
  by_cases h : c < 0
  · have hp : Hid (pickAt c n = -((c + 1).tmod n)) := by unfold pickAt; rw [if_pos h, ← Int.tmod_eq_emod_of_nonneg (by omega), Int.neg_tmod]; exact rfl
    go_enter Try.func4, Try.ntmps4
    go_wp2
    go_ret
    exact ⟨by rw [unhide hp]; rfl, rfl⟩
  · have hp : Hid (pickAt c n = c % n) := by unfold pickAt; rw [if_neg h]; exact rfl
    go_enter Try.func4, Try.ntmps4
    go_wp2
    go_ret
    exact ⟨by rw [unhide hp]; rfl, rfl⟩

/-! the plain facts on columns and disks, by a table of all of them -/
def nextCol (n c : Int) : Int := (c + 1) % n
def rowGood (n s k : Nat) : Bool :=
  decide (0 ≤ colAt n s k) && (decide (colAt n s k < n) && (decide (dskAt n s (colAt n s k) = k) &&
  (decide (colAt n s (((k : Int) + 1) % n) = nextCol n (colAt n s k)) && (decide (colAt n s k = (n : Int) - 2 → (k : Int) = (n : Int) - 1 - (s : Int) % n) &&
  ((List.range n).all fun c => decide (dskAt n s c = k) == decide ((c : Int) = colAt n s k))))))
theorem rows_all : ((List.range 9).all fun n => (List.range 6).all fun s => (List.range n).all fun k => decide (n < 4) || rowGood n s k) = true := by decide +kernel

theorem rows_at (n s k : Int) (h1 : 4 ≤ n) (h2 : n ≤ 8) (h3 : 0 ≤ s) (h4 : s ≤ 5) (h5 : 0 ≤ k) (h6 : k < n) :
    0 ≤ colAt n s k ∧ colAt n s k < n ∧ dskAt n s (colAt n s k) = k ∧ colAt n s ((k + 1) % n) = nextCol n (colAt n s k) ∧ (colAt n s k = n - 2 → k = n - 1 - s % n) ∧
    ∀ c : Nat, (c : Int) < n → (dskAt n s c = k ↔ (c : Int) = colAt n s k) := by
  obtain ⟨N, rfl⟩ := Int.eq_ofNat_of_zero_le (show 0 ≤ n by omega)
  obtain ⟨S, rfl⟩ := Int.eq_ofNat_of_zero_le h3
  obtain ⟨K, rfl⟩ := Int.eq_ofNat_of_zero_le h5
  have h := rows_all
  simp only [List.all_eq_true, List.mem_range] at h
  have h' := h N (by omega) S (by omega) K (by omega)
  have h4' : decide (N < 4) = false := by simp; omega
  rw [h4', Bool.false_or] at h'
  simp only [rowGood, Bool.and_eq_true, decide_eq_true_eq, List.all_eq_true, List.mem_range, beq_iff_eq, decide_eq_decide] at h'
  obtain ⟨r1, r2, r3, r4, r5, r6⟩ := h'
  exact ⟨r1, r2, r3, r4, r5, fun c hc => r6 c (by omega)⟩

/-- behind k rounds: has column c been met? -/
def seenAt (n s : Int) (k c : Nat) : Bool := decide ((c : Int) < n ∧ dskAt n s c < (k : Int))

theorem seen_new (n s : Int) (k c : Nat) (h1 : 4 ≤ n) (h2 : n ≤ 8) (h3 : 0 ≤ s) (h4 : s ≤ 5) (h6 : (k : Int) < n) (hc : colAt n s k = (c : Int)) : seenAt n s k c = false := by
  obtain ⟨_, r2, r3, _⟩ := rows_at n s k h1 h2 h3 h4 (by omega) h6
  rw [hc] at r3
  simp [seenAt, r3]

theorem dsk_bd (n s c : Int) (h : 0 < n) : 0 ≤ dskAt n s c ∧ dskAt n s c < n := ⟨Int.emod_nonneg _ (by omega), Int.emod_lt_of_pos _ h⟩

theorem seen_step (n s : Int) (k c j : Nat) (h1 : 4 ≤ n) (h2 : n ≤ 8) (h3 : 0 ≤ s) (h4 : s ≤ 5) (h6 : (k : Int) < n) (hc : colAt n s k = (c : Int)) :
    seenAt n s (k + 1) j = (if j = c then true else seenAt n s k j) := by
  obtain ⟨r1, r2, r3, _, _, r6⟩ := rows_at n s k h1 h2 h3 h4 (by omega) h6
  rw [hc] at r3 r2
  by_cases hj : j = c
  · subst hj
    simp [seenAt, r2, r3]
    omega
  · rw [if_neg hj]
    by_cases hn : (j : Int) < n
    · have := r6 j hn
      rw [hc] at this
      have h : ¬ dskAt n s j = k := fun e => hj (by have := this.1 e; omega)
      simp only [seenAt]
      rw [decide_eq_decide]
      omega
    · simp [seenAt, hn]

def Seen (w : World) (B : Nat) (n s : Int) (k : Nat) : Prop := ∀ c : Nat, c < 8 → w.cell? ⟨B, c, none⟩ = some (.bool (seenAt n s k c)) ∧ w.frozen? ⟨B, c, none⟩ = false

theorem Seen.below {w w' : World} {B : Nat} {n s : Int} {k : Nat} (h : Seen w B n s k) (hB : B < w.heap.size) (hb : Below w.heap.size w w') : Seen w' B n s k :=
  fun c hc => ⟨(hb.cell (by exact hB)).trans (h c hc).1, (hb.frozen (by exact hB)).trans (h c hc).2⟩

theorem Seen.alloc {w : World} {B : Nat} {n s : Int} {k : Nat} (h : Seen w B n s k) (hB : B < w.heap.size) (o : Obj) : Seen (w.alloc o) B n s k :=
  h.below hB ((Below.refl _ _).alloc (Nat.le_refl _) o)

theorem Seen.store {w : World} {B : Nat} {n s : Int} {k c : Nat} (h : Seen w B n s k) (h1 : 4 ≤ n) (h2 : n ≤ 8) (h3 : 0 ≤ s) (h4 : s ≤ 5) (h6 : (k : Int) < n) (hc8 : c < 8) (hc : colAt n s k = (c : Int)) :
    Seen (w.setCell ⟨B, c, none⟩ (.bool true)) B n s (k + 1) := by
  intro j hj
  rw [seen_step n s k c j h1 h2 h3 h4 h6 hc]
  constructor
  · by_cases e : j = c
    · subst e
      rw [if_pos rfl]
      exact World.cell?_setCell_same _ _ _ (h j hj).1
    · rw [if_neg e, World.cell?_setCell_other _ _ _ _ (by simp only [ne_eq, Addr.mk.injEq]; omega)]
      exact (h j hj).1
  · simpa using (h j hj).2

theorem find_at (n s : Int) (c : Nat) (w : World) (h1 : 4 ≤ n) (h2 : n ≤ 8) (h3 : 0 ≤ s) (h4 : s ≤ 5) (hc : (c : Int) < n - 2) (k : Nat) (hk : dskAt n s c = (k : Int)) :
    Calls Try.prog 6 #[.int .i64 n, .int .i64 (s * (n - 2) + c)] w fun e w' => e = .returned (.tuple #[.agg #[.int .i64 s, .int .i64 c, .int .i64 k, .int .i64 (17 + 2 * s)], .int .i64 0]) ∧ Below w.heap.size w w' := by
  have p1 : 0 ≤ s * (n - 2) := Int.mul_nonneg h3 (by omega)
  have p2 : s * (n - 2) ≤ 5 * (n - 2) := Int.mul_le_mul_of_nonneg_right h4 (by omega)
  have h := find_yes n (s * (n - 2) + c) w h1 h2 (by omega) (by omega)
  have e1 : (s * (n - 2) + c) / (n - 2) = s := by
    rw [Int.add_comm, Int.add_mul_ediv_right _ _ (by omega), Int.ediv_eq_zero_of_lt (by omega) hc, Int.zero_add]
  have e2 : (s * (n - 2) + c) % (n - 2) = c := by
    rw [Int.add_comm, Int.add_mul_emod_self_right, Int.emod_eq_of_lt (by omega) hc]
  rw [e1, e2, hk] at h
  exact h

theorem holds_at (n s k : Int) (c : Nat) (w : World) (h1 : 4 ≤ n) (h2 : n ≤ 8) (h3 : 0 ≤ s) (h4 : s ≤ 5) (h5 : 0 ≤ k) (h6 : k < n) (hc : colAt n s k = (c : Int)) :
    Calls Try.prog 5 #[.int .i64 n, .int .i64 s, .int .i64 k] w fun e w' => e = .returned (.tuple #[.int .i64 (c : Int), .int .i64 0]) ∧ w' = w := by
  have h := holds_yes n s k w h1 h2 h3 h4 h5 h6
  rw [hc] at h
  exact h

theorem Seen.new (w : World) (n s : Int) : Seen (w.alloc (.cells #[.bool false, .bool false, .bool false, .bool false, .bool false, .bool false, .bool false, .bool false] 23)) w.heap.size n s 0 := by
  intro c hc
  have h0 : seenAt n s 0 c = false := by
    simp only [seenAt, decide_eq_false_iff_not]
    rintro ⟨a, b⟩
    have := dsk_bd n s c (by omega)
    omega
  rw [h0]
  rcases (show c = 0 ∨ c = 1 ∨ c = 2 ∨ c = 3 ∨ c = 4 ∨ c = 5 ∨ c = 6 ∨ c = 7 from by omega) with rfl | rfl | rfl | rfl | rfl | rfl | rfl | rfl <;> simp

set_option maxRecDepth 100000 in
set_option maxHeartbeats 1000000 in
theorem walk_in (a0 a1 : Int) (w0 : (Lit.int .i64 a0).wf = true) (w1 : (Lit.int .i64 a1).wf = true) (w : World) :
    Calls Try.prog 3 #[.int .i64 a0, .int .i64 a1] w fun e w' => e = .returned (.bool true) ∧ Below w.heap.size w w' := by
  obtain ⟨b1, b2⟩ := bounds_i64 w0
  obtain ⟨b3, b4⟩ := bounds_i64 w1
  clear w0 w1
  obtain ⟨p1, p2⟩ := pickAt_bd a0 5 (by omega)
  obtain ⟨q1, q2⟩ := pickAt_bd a1 6 (by omega)
  go_enter Try.func3, Try.ntmps3
  go_wp2_with fail
  refine (pick_any _ _ _ (by omega) b1 b2 (by omega)).mono ?_
  rintro e w' ⟨rfl, rfl⟩
  go_wp2_with fail
  refine (pick_any _ _ _ (by omega) b3 b4 (by omega)).mono ?_
  rintro e w' ⟨rfl, rfl⟩
  generalize pickAt a0 5 = x at *
  generalize pickAt a1 6 = s at *
  clear b1 b2 b3 b4
  go_wp2
  have g1 : 4 ≤ 4 + x := by omega
  have g2 : 4 + x ≤ 8 := by omega
  generalize 4 + x = n at *
  clear p1 p2
  have q2' : s ≤ 5 := by omega
  clear q2
  go_loopw [8] (fun i wr => ∃ k : Nat, (k : Int) ≤ n ∧ i = .int .i64 k ∧ Below w'.heap.size w' wr ∧ w'.heap.size < wr.heap.size ∧ Seen wr w'.heap.size n s k) (fun i _ => n.toNat - (intOf i).toNat)
  case atStart => exact ⟨0, by omega, rfl, (Below.refl _ _).alloc (Nat.le_refl _) _, by simp, Seen.new _ _ _⟩
  case round =>
    obtain ⟨k, hk, rfl, hbel, hsz, hseen⟩ := hrel
    by_cases hlt : (k : Int) < n
    · obtain ⟨r1, r2, r3, r4, r5, r6⟩ := rows_at n s k g1 g2 q1 q2' (by omega) hlt
      obtain ⟨c, hc⟩ := Int.eq_ofNat_of_zero_le r1
      have HC : Hid (colAt n s k = (c : Int)) := hc
      have hcn : (c : Int) < n := by omega
      have hcell : wr.cell? ⟨w'.heap.size, c, none⟩ = some (.bool false) := by rw [(hseen c (by omega)).1, seen_new n s k c g1 g2 q1 q2' hlt hc]
      have hfr : wr.frozen? ⟨w'.heap.size, c, none⟩ = false := (hseen c (by omega)).2
      have HS := hide (hseen.store g1 g2 q1 q2' hlt (c := c) (by omega) hc)
      obtain ⟨c2, hc2⟩ : ∃ c2 : Nat, nextCol n c = (c2 : Int) := Int.eq_ofNat_of_zero_le (Int.emod_nonneg _ (by omega))
      have HN : Hid (colAt n s (((k : Int) + 1) % n) = (c2 : Int)) := by rw [← hc2, ← hc]; exact r4
      have hc3 : ((c : Int) + 1) % n = (c2 : Int) := hc2
      have hk1 : 0 ≤ ((k : Int) + 1) % n := Int.emod_nonneg _ (by omega)
      have hk2 : ((k : Int) + 1) % n < n := Int.emod_lt_of_pos _ (by omega)
      have HD : Hid (dskAt n s c = (k : Int)) := by rw [← hc]; exact r3
      have H5 : Hid (((c : Int) = n - 2) → (k : Int) = n - 1 - s % n) := by rw [hc] at r5; exact r5
      have hm1 : 0 ≤ s * (n - 2) := Int.mul_nonneg q1 (by omega)
      have hm2 : s * (n - 2) ≤ 30 := by
        have : s * (n - 2) ≤ 5 * (n - 2) := Int.mul_le_mul_of_nonneg_right q2' (by omega)
        omega
      clear r1 r2 r3 r4 r5 r6 hc hseen hc2
      have hsz2 := hbel.size
      go_wp2_with fail
      refine (holds_at _ _ _ c _ g1 g2 q1 q2' (by omega) hlt (unhide HC)).mono ?_
      rintro e w2 ⟨rfl, rfl⟩
      by_cases c1 : (c : Int) < n - 2
      · go_wp2_with fail
        refine (find_at _ _ c _ g1 g2 q1 q2' c1 k (unhide HD)).mono ?_
        rintro e w3 ⟨rfl, hb3⟩
        have hne : ((c : Int) == n - 2) = false := beq_eq_false_iff_ne.2 (by omega)
        have hz3 : w'.heap.size < w3.heap.size := Nat.lt_of_lt_of_le hsz (by simpa using hb3.size)
        have HSeen := hide ((unhide HS).below (by simpa using hsz) hb3)
        have HBel := hide ((hbel.setCell (p := ⟨w'.heap.size, c, none⟩) (Nat.le_refl _) (.bool true)).trans (hb3.mono (by simpa using Nat.le_of_lt hsz)))
        clear hb3 HS hcell hfr hbel
        go_wp2_with fail
        refine (holds_at _ _ _ c2 _ g1 g2 q1 q2' hk1 hk2 (unhide HN)).mono ?_
        rintro e w4 ⟨rfl, rfl⟩
        go_wp2
        go_roundw
        case rel => exact ⟨k + 1, by omega, by go_num, (unhide HBel).alloc (Nat.le_of_lt hz3) _, by simp; omega, (unhide HSeen).alloc hz3 _⟩
        case measure => simp [intOf]; omega
      · by_cases c4 : (c : Int) = n - 2
        · have hkk := (unhide H5) c4
          have hne : ((c : Int) == n - 2) = true := beq_iff_eq.2 (by omega)
          have hne2 : ((k : Int) != n - 1 - s % n) = false := by simp [hkk]
          have HZ : Hid ((c : Int) = n - 2) := c4
          have m1 : 0 ≤ s % n := Int.emod_nonneg _ (by omega)
          have m2 : s % n < n := Int.emod_lt_of_pos _ (by omega)
          clear c4 hkk
          have HBel := hide (hbel.setCell (p := ⟨w'.heap.size, c, none⟩) (Nat.le_refl _) (.bool true))
          clear hbel
          go_wp2_with fail
          refine (holds_at _ _ _ c2 _ g1 g2 q1 q2' hk1 hk2 (unhide HN)).mono ?_
          rintro e w4 ⟨rfl, rfl⟩
          go_wp2
          go_roundw
          case rel => exact ⟨k + 1, by omega, by go_num, unhide HBel, by simp; omega, unhide HS⟩
          case measure => simp [intOf]; omega
        · have hne : ((c : Int) == n - 2) = false := beq_eq_false_iff_ne.2 (by omega)
          have HBel := hide (hbel.setCell (p := ⟨w'.heap.size, c, none⟩) (Nat.le_refl _) (.bool true))
          clear hbel
          go_wp2_with fail
          refine (holds_at _ _ _ c2 _ g1 g2 q1 q2' hk1 hk2 (unhide HN)).mono ?_
          rintro e w4 ⟨rfl, rfl⟩
          go_wp2
          go_roundw
          case rel => exact ⟨k + 1, by omega, by go_num, unhide HBel, by simp; omega, unhide HS⟩
          case measure => simp [intOf]; omega
    · clear hseen
      have t1 : btw n 4 8 = true := by simp [btw]; omega
      have t2 : btw s 0 5 = true := by simp [btw]; omega
      have t3 : btw n 0 (n - 1) = false := by simp [btw]; omega
      have t4 : btw (6 * (n - 2)) 0 (6 * (n - 2) - 1) = false := by simp [btw]; omega
      have T1 := hide t1
      have T2 := hide t2
      have T3 := hide t3
      have T4 := hide t4
      clear t1 t2 t3 t4
      go_wp2_with fail
      refine (holds_no _ _ _ _ (.inr ⟨unhide T1, .inr ⟨unhide T2, unhide T3⟩⟩)).mono ?_
      rintro e w2 ⟨rfl, rfl⟩
      go_wp2_with fail
      refine (find_no _ _ _ (.inr ⟨unhide T1, unhide T4⟩)).mono ?_
      rintro e w3 ⟨rfl, hb3⟩
      have HBel := hide (hbel.trans (hb3.mono (Nat.le_of_lt hsz)))
      have hz3 : w'.heap.size < w3.heap.size := Nat.lt_of_lt_of_le hsz hb3.size
      clear hbel hb3
      go_wp2
      go_ret
      exact ⟨rfl, (unhide HBel).alloc (Nat.le_of_lt hz3) _⟩

theorem own : ownKnob Try.prog.godebug = none := by kernel_rfl

set_option maxRecDepth 100000 in
theorem lifted (os : Os) (started : os.Started) (H : Type) (enc : TypeId × Value → H) :
    ReturnsInHanded {} Try.checked os 3 .any (Rows.laidSpec.pre6 enc Try.prog Try.f3 Rows.laidRow.domain false) (Rows.laidSpec.post enc Try.prog Try.f3 false true false false) := by
  refine returnsInHanded_of_change (C := Try.checked) own started (by kernel_rfl) Try.func3
    (ChangeSpec.witness6 (enc := enc) (C := Try.checked) false ⟨#[], #[.int .i64 0, .int .i64 0], []⟩ 8 (by kernel_rfl) (by kernel_rfl) (by kernel_rfl) (by kernel_rfl)) ?_
  intro W base args ds gs before hval0 hW _ _
  have hval : ∀ (j : Nat) t v, Try.f3.params[j]? = some t → args[j]? = some v → Value.okWide Try.prog W .any base t v := hval0
  have hW' := hW
  obtain ⟨p, q, hA0, hV, rfl, _, _⟩ := hW
  have hA : DataW.TrodAll enc Try.prog W 0 (fun _ => true) true Try.f3.params.toList args.toList ds p := hA0
  rw [Try.params3] at hA hval
  obtain ⟨v0, vs0, d0, ds0, p0, q0, _, rfl, rfl, h0, r0⟩ := trodAll_cons hA
  obtain ⟨v1, vs1, d1, ds1, p1, q1, rfl, rfl, rfl, h1, r1⟩ := trodAll_cons r0
  obtain ⟨rfl, rfl, rfl⟩ := trodAll_nil r1
  obtain rfl : args = #[v0, v1] := by cases args; simp_all
  obtain ⟨rfl, rfl⟩ := trodVars_none hV
  obtain ⟨a0, rfl, rfl, rfl, w0⟩ := open_int Try.underlying3 (hval 0 3 v0 rfl rfl) h0
  obtain ⟨a1, rfl, rfl, rfl, w1⟩ := open_int Try.underlying3 (hval 1 3 v1 rfl rfl) h1
  clear hA0 hval0
  simp only [List.append_nil] at hW'
  refine (walk_in a0 a1 w0 w1 W).mono fun e W' ⟨he, bel⟩ => ?_
  subst he
  exact ⟨_, rfl, _, _, _, [], [], [], hW', trodAll_mk1 (shut_bool Try.underlying4 _), (trodAll_cons_mk (shut_int Try.underlying3 w0) (trodAll_cons_mk (shut_int Try.underlying3 w1) trodAll_mk0)), rfl, bel.frame _, fun h => by cases h⟩

theorem over : Rows.laidRow.holds Try.pinned (OpenSpec.ofChange Rows.laidSpec) :=
  OpenClaim.holds_of_wide 3 Try.f3 rfl rfl rfl rfl rfl rfl rfl ⟨rfl, rfl, rfl, rfl, rfl⟩ rfl rfl rfl rfl rfl (by kernel_rfl) Try.func3 (by kernel_rfl)
    (of_decide_eq_true (by kernel_rfl)) (by unfold Func.isWrapper; first | (rw [if_pos (by decide +kernel)]; kernel_rfl) | (rw [if_neg (by decide +kernel)]; exact ⟨rfl, rfl⟩))
    (fun os started H enc _ => lifted os started H enc)

theorem proved : Rows.LaidSaid :=
  over
#print axioms proved
end Go.Proofs.Ytdcinlkkjbclmab
