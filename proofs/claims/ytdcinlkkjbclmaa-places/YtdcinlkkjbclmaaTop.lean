/- Places answers true: for all four numbers the program's Find and Holds answer as the document's own do. -/
import Derived.Test.YtdcinlkkjbclmaaRef
import Derived.ProofKit
import Derived.OpenShut
namespace Go.Proofs.Ytdcinlkkjbclmaa
open Go.ChangeShapes Go.WideShapes Go.ChangeAt Go.RowKit

theorem ordAt_eq (d s : Int) (i : Nat) : ordAt d s i = dskAt d s i := by
  induction i with
  | zero => simp [ordAt, dskAt]
  | succ i ih =>
    rw [ordAt, ih, dskAt, dskAt, Int.emod_add_emod]
    congr 1
    omega

def colGood (d s c : Nat) : Bool := decide (colAt d s (dskAt d s c) = c) && (decide (dskAt d s (colAt d s c).toNat = c) && (decide (0 ≤ colAt d s c) && decide (colAt d s c < d)))
theorem col_all : ((List.range 9).all fun d => (List.range 6).all fun s => (List.range d).all fun c => decide (d < 4) || colGood d s c) = true := by decide +kernel
theorem col_tab (d : Nat) (hd : d < 9) (s : Nat) (hs : s < 6) (c : Nat) (hc : c < d) (h4 : 4 ≤ d) : colAt d s (dskAt d s c) = c ∧ dskAt d s (colAt d s c).toNat = c ∧ 0 ≤ colAt d s c ∧ colAt d s c < d := by
  have h := col_all
  simp only [List.all_eq_true, List.mem_range] at h
  have h' := h d hd s hs c hc
  have h4' : decide (d < 4) = false := by simp; omega
  rw [h4', Bool.false_or] at h'
  simpa [colGood] using h'

theorem holds_y (d s k : Int) (h1 : 4 ≤ d) (h2 : d ≤ 8) (h3 : 0 ≤ s) (h4 : s ≤ 5) (c : Nat) (hc : (c : Int) < d) (he : ordAt d s c = k) : holdsAns d s k = (.int .i64 (c : Int), .int .i64 0) := by
  have hb := ordAt_bd d s (by omega) c
  obtain ⟨D, rfl⟩ := Int.eq_ofNat_of_zero_le (show 0 ≤ d by omega)
  obtain ⟨S, rfl⟩ := Int.eq_ofNat_of_zero_le h3
  have t := (col_tab D (by omega) S (by omega) c (by omega) (by omega)).1
  rw [← ordAt_eq, he] at t
  rw [he] at hb
  rw [holdsAns, if_pos ⟨hb.1, hb.2⟩, t]

theorem holds_n (d s k : Int) (h1 : 4 ≤ d) (h2 : d ≤ 8) (h3 : 0 ≤ s) (h4 : s ≤ 5) (h : ∀ c : Nat, (c : Int) < d → ordAt d s c ≠ k) : holdsAns d s k = (.int .i64 0, .int .i64 1) := by
  rw [holdsAns, if_neg]
  rintro ⟨k1, k2⟩
  obtain ⟨D, rfl⟩ := Int.eq_ofNat_of_zero_le (show 0 ≤ d by omega)
  obtain ⟨S, rfl⟩ := Int.eq_ofNat_of_zero_le h3
  obtain ⟨K, rfl⟩ := Int.eq_ofNat_of_zero_le k1
  obtain ⟨_, t2, t3, t4⟩ := col_tab D (by omega) S (by omega) K (by omega) (by omega)
  exact h (colAt D S K).toNat (by omega) (by rw [ordAt_eq]; exact t2)

theorem found_y (d b : Int) (h1 : 4 ≤ d) (h2 : d ≤ 8) (h3 : 0 ≤ b) (h4 : b ≤ 6 * (d - 2) - 1) :
    Found d b (.int .i64 (b / (d - 2)), .int .i64 (b % (d - 2)), .int .i64 (dskAt d (b / (d - 2)) (b % (d - 2))), .int .i64 (17 + 2 * (b / (d - 2))), .int .i64 0) := by
  constructor
  · intro s c hs hc he
    have e1 : b / (d - 2) = s := by
      rw [← he, pk, Int.add_comm, Int.add_mul_ediv_right _ _ (by omega), Int.ediv_eq_zero_of_lt (by omega) hc, Int.zero_add]
    have e2 : b % (d - 2) = c := by
      rw [← he, pk, Int.add_comm, Int.add_mul_emod_self_right, Int.emod_eq_of_lt (by omega) hc]
    rw [e1, e2, ordAt_eq]
  · intro h
    have q1 : 0 ≤ b / (d - 2) := Int.ediv_nonneg h3 (by omega)
    have q2 : b / (d - 2) < 6 := Int.ediv_lt_of_lt_mul (by omega) (by omega)
    have q3 : 0 ≤ b % (d - 2) := Int.emod_nonneg _ (by omega)
    have q4 : b % (d - 2) < d - 2 := Int.emod_lt_of_pos _ (by omega)
    refine absurd ?_ (h (b / (d - 2)).toNat (b % (d - 2)).toNat (by omega) (by omega))
    rw [pk, Int.toNat_of_nonneg q1, Int.toNat_of_nonneg q3, Int.mul_comm]
    exact Int.mul_ediv_add_emod b (d - 2)

theorem found_n (d b : Int) (h1 : 4 ≤ d) (h2 : d ≤ 8) (h : ¬ (0 ≤ b ∧ b ≤ 6 * (d - 2) - 1)) :
    Found d b (.int .i64 0, .int .i64 0, .int .i64 0, .int .i64 0, .int .i64 1) := by
  constructor
  · intro s c hs hc he
    have p1 := pk_bd d s h1 h2 (by omega)
    have p2 : pk d s ≤ 5 * (d - 2) := by
      unfold pk
      exact Int.mul_le_mul_of_nonneg_right (by omega) (by omega)
    omega
  · intro _
    rfl

/-- what Find answers -/
def findAns (d b : Int) : Value × Value × Value × Value × Value :=
  if (4 ≤ d ∧ d ≤ 8) ∧ 0 ≤ b ∧ b ≤ 6 * (d - 2) - 1 then (.int .i64 (b / (d - 2)), .int .i64 (b % (d - 2)), .int .i64 (dskAt d (b / (d - 2)) (b % (d - 2))), .int .i64 (17 + 2 * (b / (d - 2))), .int .i64 0)
  else (.int .i64 0, .int .i64 0, .int .i64 0, .int .i64 0, .int .i64 1)

theorem find_any (d b : Int) (w : World) : ∃ x0 x1 x2 x3 xe : Int,
    (Calls Try.prog 4 #[.int .i64 d, .int .i64 b] w fun e w' => e = .returned (.tuple #[.agg #[.int .i64 x0, .int .i64 x1, .int .i64 x2, .int .i64 x3], .int .i64 xe]) ∧ Below w.heap.size w w') ∧
    ∀ w2 : World, Calls Try.prog 5 #[.int .i64 d, .int .i64 b] w2 fun e w' => e = .returned (.tuple #[.agg #[.int .i64 x0, .int .i64 x1, .int .i64 x2, .int .i64 x3], .int .i64 xe]) ∧ Below w2.heap.size w2 w' := by
  by_cases h : 4 ≤ d ∧ d ≤ 8
  · obtain ⟨h1, h2⟩ := h
    by_cases hb : 0 ≤ b ∧ b ≤ 6 * (d - 2) - 1
    · exact ⟨_, _, _, _, _, find_yes d b w h1 h2 hb.1 hb.2, fun w2 => refFind_in d b w2 h1 h2 _ _ _ _ _ (found_y d b h1 h2 hb.1 hb.2)⟩
    · exact ⟨_, _, _, _, _, find_no d b w (.inr ⟨by simp [btw, h1, h2], by simpa [btw] using hb⟩), fun w2 => refFind_in d b w2 h1 h2 _ _ _ _ _ (found_n d b h1 h2 hb)⟩
  · exact ⟨_, _, _, _, _, find_no d b w (.inl (by simpa [btw] using h)), fun w2 => refFind_out d b w2 (by omega)⟩

theorem holds_any (d s k : Int) (w : World) : ∃ x0 xe : Int,
    (Calls Try.prog 6 #[.int .i64 d, .int .i64 s, .int .i64 k] w fun e w' => e = .returned (.tuple #[.int .i64 x0, .int .i64 xe]) ∧ w' = w) ∧
    ∀ w2 : World, Calls Try.prog 7 #[.int .i64 d, .int .i64 s, .int .i64 k] w2 fun e w' => e = .returned (.tuple #[.int .i64 x0, .int .i64 xe]) ∧ Below w2.heap.size w2 w' := by
  by_cases h : 4 ≤ d ∧ d ≤ 8
  · obtain ⟨h1, h2⟩ := h
    by_cases hs : 0 ≤ s ∧ s ≤ 5
    · obtain ⟨h3, h4⟩ := hs
      have r := fun w2 => refHolds_in d s k w2 h1 h2 h3 h4 (holds_y d s k h1 h2 h3 h4) (holds_n d s k h1 h2 h3 h4)
      by_cases hk : 0 ≤ k ∧ k < d
      · refine ⟨colAt d s k, 0, holds_yes d s k w h1 h2 h3 h4 hk.1 hk.2, fun w2 => ?_⟩
        have := r w2
        rwa [holdsAns, if_pos hk] at this
      · refine ⟨0, 1, holds_no d s k w (.inr ⟨by simp [btw, h1, h2], .inr ⟨by simp [btw, h3, h4], by simp [btw]; omega⟩⟩), fun w2 => ?_⟩
        have := r w2
        rwa [holdsAns, if_neg hk] at this
    · exact ⟨0, 1, holds_no d s k w (.inr ⟨by simp [btw, h1, h2], .inl (by simpa [btw] using hs)⟩), fun w2 => refHolds_out d s k w2 (by omega)⟩
  · exact ⟨0, 1, holds_no d s k w (.inl (by simpa [btw] using h)), fun w2 => refHolds_out d s k w2 (by omega)⟩

set_option maxHeartbeats 400000 in
theorem walk (a0 : Int) (a1 : Int) (a2 : Int) (a3 : Int) (w : World) :
    Calls Try.prog 3 #[.int .i64 a0, .int .i64 a1, .int .i64 a2, .int .i64 a3] w fun e w' => e = .returned (.bool true) ∧ Below w.heap.size w w' := by
  obtain ⟨x0, x1, x2, x3, xe, F, R⟩ := find_any a0 a1 w
  have HF := hide F
  have HR := hide R
  clear F R
  go_enter Try.func3, Try.ntmps3
  go_wp2_with fail
  refine (unhide HF).mono ?_
  rintro e w1 ⟨rfl, hb1⟩
  go_wp2_with fail
  refine (unhide HR _).mono ?_
  rintro e w2 ⟨rfl, hb2⟩
  have hs1 := hb1.size
  have hs2 := hb2.size
  obtain ⟨y0, ye, G, T⟩ := holds_any a0 a2 a3 (w2.alloc (.cells #[.int .i64 x0, .int .i64 x1, .int .i64 x2, .int .i64 x3] 23))
  have HG := hide G
  have HT := hide T
  clear G T
  have hc1 : ∀ j u, [Value.int .i64 x0, .int .i64 x1, .int .i64 x2, .int .i64 x3][j]? = some u → w2.cell? ⟨w1.heap.size, j, none⟩ = some u := by
    intro j u hj
    rw [hb2.cell (by simp)]
    match j, hj with
    | 0, hj => simp at hj; subst hj; simp
    | 1, hj => simp at hj; subst hj; simp
    | 2, hj => simp at hj; subst hj; simp
    | 3, hj => simp at hj; subst hj; simp
  have q0 := hc1 0 _ rfl
  have q1 := hc1 1 _ rfl
  have q2 := hc1 2 _ rfl
  have q3 := hc1 3 _ rfl
  clear hc1
  simp at hs2
  go_wp2_with fail
  refine (unhide HG).mono ?_
  rintro e w3 ⟨rfl, rfl⟩
  go_wp2_with fail
  refine (unhide HT _).mono ?_
  rintro e w4 ⟨rfl, hb4⟩
  have hz4 := hb4.size
  simp at hz4
  have r0 : w4.cell? ⟨w1.heap.size, 0, none⟩ = some (.int .i64 x0) := by rw [hb4.cell (by simp; omega), World.cell?_alloc_past _ _ _ (by omega)]; exact q0
  have r1 : w4.cell? ⟨w1.heap.size, 1, none⟩ = some (.int .i64 x1) := by rw [hb4.cell (by simp; omega), World.cell?_alloc_past _ _ _ (by omega)]; exact q1
  have r2 : w4.cell? ⟨w1.heap.size, 2, none⟩ = some (.int .i64 x2) := by rw [hb4.cell (by simp; omega), World.cell?_alloc_past _ _ _ (by omega)]; exact q2
  have r3 : w4.cell? ⟨w1.heap.size, 3, none⟩ = some (.int .i64 x3) := by rw [hb4.cell (by simp; omega), World.cell?_alloc_past _ _ _ (by omega)]; exact q3
  have s0 : w4.cell? ⟨w2.heap.size, 0, none⟩ = some (.int .i64 x0) := by rw [hb4.cell (by simp)]; simp
  have s1 : w4.cell? ⟨w2.heap.size, 1, none⟩ = some (.int .i64 x1) := by rw [hb4.cell (by simp)]; simp
  have s2 : w4.cell? ⟨w2.heap.size, 2, none⟩ = some (.int .i64 x2) := by rw [hb4.cell (by simp)]; simp
  have s3 : w4.cell? ⟨w2.heap.size, 3, none⟩ = some (.int .i64 x3) := by rw [hb4.cell (by simp)]; simp
  have HB := hide hb4
  clear hb4 q0 q1 q2 q3
  go_wp2
  go_ret
  exact ⟨rfl, ((hb1.trans (((Below.refl _ _).alloc (Nat.le_refl _) _).mono hs1)).trans (hb2.mono (by simp; omega))).trans ((((Below.refl _ _).alloc (Nat.le_refl _) _).trans ((unhide HB).mono (by simp))).mono (by omega))⟩

theorem own : ownKnob Try.prog.godebug = none := by kernel_rfl

set_option maxRecDepth 100000 in
theorem lifted (os : Os) (started : os.Started) (H : Type) (enc : TypeId × Value → H) :
    ReturnsInHanded {} Try.checked os 3 .any (Rows.placesSpec.pre6 enc Try.prog Try.f3 Rows.placesRow.domain false) (Rows.placesSpec.post enc Try.prog Try.f3 false true false false) := by
  refine returnsInHanded_of_change (C := Try.checked) own started (by kernel_rfl) Try.func3
    (ChangeSpec.witness6 (enc := enc) (C := Try.checked) false ⟨#[], #[.int .i64 0, .int .i64 0, .int .i64 0, .int .i64 0], []⟩ 8 (by kernel_rfl) (by kernel_rfl) (by kernel_rfl) (by kernel_rfl)) ?_
  intro W base args ds gs before hval0 hW _ _
  have hval : ∀ (j : Nat) t v, Try.f3.params[j]? = some t → args[j]? = some v → Value.okWide Try.prog W .any base t v := hval0
  have hW' := hW
  obtain ⟨p, q, hA0, hV, rfl, _, _⟩ := hW
  have hA : DataW.TrodAll enc Try.prog W 0 (fun _ => true) true Try.f3.params.toList args.toList ds p := hA0
  rw [Try.params3] at hA hval
  obtain ⟨v0, vs0, d0, ds0, p0, q0, _, rfl, rfl, h0, r0⟩ := trodAll_cons hA
  obtain ⟨v1, vs1, d1, ds1, p1, q1, rfl, rfl, rfl, h1, r1⟩ := trodAll_cons r0
  obtain ⟨v2, vs2, d2, ds2, p2, q2, rfl, rfl, rfl, h2, r2⟩ := trodAll_cons r1
  obtain ⟨v3, vs3, d3, ds3, p3, q3, rfl, rfl, rfl, h3, r3⟩ := trodAll_cons r2
  obtain ⟨rfl, rfl, rfl⟩ := trodAll_nil r3
  obtain rfl : args = #[v0, v1, v2, v3] := by cases args; simp_all
  obtain ⟨rfl, rfl⟩ := trodVars_none hV
  obtain ⟨a0, rfl, rfl, rfl, w0⟩ := open_int Try.underlying3 (hval 0 3 v0 rfl rfl) h0
  obtain ⟨a1, rfl, rfl, rfl, w1⟩ := open_int Try.underlying3 (hval 1 3 v1 rfl rfl) h1
  obtain ⟨a2, rfl, rfl, rfl, w2⟩ := open_int Try.underlying3 (hval 2 3 v2 rfl rfl) h2
  obtain ⟨a3, rfl, rfl, rfl, w3⟩ := open_int Try.underlying3 (hval 3 3 v3 rfl rfl) h3
  clear hA0 hval0
  simp only [List.append_nil] at hW'
  refine (walk a0 a1 a2 a3 W).mono fun e W' ⟨he, bel⟩ => ?_
  subst he
  exact ⟨_, rfl, _, _, _, [], [], [], hW', trodAll_mk1 (shut_bool Try.underlying4 _), (trodAll_cons_mk (shut_int Try.underlying3 w0) (trodAll_cons_mk (shut_int Try.underlying3 w1) (trodAll_cons_mk (shut_int Try.underlying3 w2) (trodAll_cons_mk (shut_int Try.underlying3 w3) trodAll_mk0)))), rfl, bel.frame _, fun h => by cases h⟩

theorem over : Rows.placesRow.holds Try.pinned (OpenSpec.ofChange Rows.placesSpec) :=
  OpenClaim.holds_of_wide 3 Try.f3 rfl rfl rfl rfl rfl rfl rfl ⟨rfl, rfl, rfl, rfl, rfl⟩ rfl rfl rfl rfl rfl (by kernel_rfl) Try.func3 (by kernel_rfl)
    (of_decide_eq_true (by kernel_rfl)) (by unfold Func.isWrapper; first | (rw [if_pos (by decide +kernel)]; kernel_rfl) | (rw [if_neg (by decide +kernel)]; exact ⟨rfl, rfl⟩))
    (fun os started H enc _ => lifted os started H enc)

theorem proved : Rows.PlacesSaid :=
  over
#print axioms proved
end Go.Proofs.Ytdcinlkkjbclmaa
