/- For whatever numbers of disks and stripes, whatever request, disk and command: platterlaw.Refuses answers true, and what it was handed reads as it did. No condition. -/
import Derived.Test.YtdcinlkkjbclmaaGreatLRefuse
import Derived.Test.YtdcinlkkjbclmaaGreatRows
import Derived.ProofKit
import Derived.OpenShut
import Derived.Carry
import Derived.Lib.SmallJoins
namespace Go.Proofs.YtdcinlkkjbclmaaGreat
open Go.ChangeShapes Go.WideShapes Go.ChangeAt Go.RowKit Go.Joins

theorem own : ownKnob Tryz.prog.godebug = none := by kernel_rfl
theorem laidOut : laidOutB Tryz.prog = true := by kernel_rfl
theorem cellsReq : Tryz.prog.cellsOf 38 = 3 := by kernel_rfl
theorem cellsByte : Tryz.prog.cellsOf 5 = 1 := by kernel_rfl

set_option maxRecDepth 100000 in
theorem lifted (os : Os) (started : os.Started) (H : Type) (enc : TypeId × Value → H) :
    ReturnsInHanded {} Tryz.checked os 8 .any (Rows.refusesSpec.pre6 enc Tryz.prog Tryz.f8 Rows.refusesRow.domain false) (Rows.refusesSpec.post enc Tryz.prog Tryz.f8 false true false false) := by
  refine returnsInHanded_of_change (C := Tryz.checked) own started (by kernel_rfl) Tryz.func8
    (ChangeSpec.witness6 (enc := enc) (C := Tryz.checked) false ⟨#[], #[.int .i64 0, .int .i64 0, .agg #[.int .i64 0, .int .i64 0, .slice none 0 0], .int .i64 0, .int .i64 0], []⟩ 8 (by kernel_rfl) (by kernel_rfl) (by kernel_rfl) (by kernel_rfl)) ?_
  intro W base args ds gs before hval0 hW _ _
  have hval : ∀ (j : Nat) t v, Tryz.f8.params[j]? = some t → args[j]? = some v → Value.okWide Tryz.prog W .any base t v := hval0
  have hW' := hW
  obtain ⟨p, q, hA0, hV, rfl, _, _⟩ := hW
  have hA : DataW.TrodAll enc Tryz.prog W 0 (fun _ => true) true Tryz.f8.params.toList args.toList ds p := hA0
  rw [Tryz.params8] at hA hval
  obtain ⟨v0, vs0, d0, ds0, p0, q0, _, rfl, rfl, h0, r0⟩ := trodAll_cons hA
  obtain ⟨v1, vs1, d1, ds1, p1, q1, rfl, rfl, rfl, h1, r1⟩ := trodAll_cons r0
  obtain ⟨v2, vs2, d2, ds2, p2, q2, rfl, rfl, rfl, h2, r2⟩ := trodAll_cons r1
  obtain ⟨v3, vs3, d3, ds3, p3, q3, rfl, rfl, rfl, h3, r3⟩ := trodAll_cons r2
  obtain ⟨v4, vs4, d4, ds4, p4, q4, rfl, rfl, rfl, h4, r4⟩ := trodAll_cons r3
  obtain ⟨rfl, rfl, rfl⟩ := trodAll_nil r4
  obtain rfl : args = #[v0, v1, v2, v3, v4] := by cases args; simp_all
  obtain ⟨rfl, rfl⟩ := trodVars_none hV
  obtain ⟨a0, rfl, rfl, rfl, w0⟩ := open_int Tryz.underlying3 (hval 0 3 v0 rfl rfl) h0
  obtain ⟨a1, rfl, rfl, rfl, w1⟩ := open_int Tryz.underlying3 (hval 1 3 v1 rfl rfl) h1
  obtain ⟨a3, rfl, rfl, rfl, w3⟩ := open_int Tryz.underlying3 (hval 3 3 v3 rfl rfl) h3
  obtain ⟨a4, rfl, rfl, rfl, w4⟩ := open_int Tryz.underlying3 (hval 4 3 v4 rfl rfl) h4
  have h2k := h2
  obtain ⟨c0, c1, c2, y0, y1, y2, m, rfl, rfl, rfl, hy0, hy1, hy2⟩ := open_agg3 Tryz.underlying38 (by kernel_rfl) cellsReq (hval 2 38 v2 rfl rfl) h2
  clear hA0 hval0
  obtain ⟨k, hc0, hx0, wk⟩ := DataW.trod_int Tryz.underlying3 hy0
  obtain ⟨n, hc1, hx1, wn⟩ := DataW.trod_int Tryz.underlying3 hy1
  simp only [List.cons.injEq, and_true] at hc0 hc1
  subst hc0 hc1 hx0 hx1
  have hlt : ∀ x ∈ (([] : List MemPlace) ++ (([] : List MemPlace) ++ y2.2)), x.block < W.heap.size := fun x hx => by
    refine hW'.lt x ?_
    simpa using hx
  obtain ⟨l4, u4⟩ := bounds_i64 w4
  have walk : ∃ (da : Option Addr) (dn dc : Nat) (cs : List Value), c2 = .slice da dn dc ∧ cs.length = dn ∧ dn ≤ maxLen ∧ (∀ v ∈ cs, v.oneCell' = true) ∧ (∀ j v, cs[j]? = some v → ∃ g o, da = some ⟨g, o, none⟩ ∧ W.cell? ⟨g, o + j, none⟩ = some v) := by
    rcases open_ints Tryz.underlying36 Tryz.underlying5 cellsByte hy2 with ⟨hcs, _⟩ | ⟨a, len, cap, zs, hcs, _, hl, hm, hz, _, hcell, _⟩
    · simp only [List.cons.injEq, and_true] at hcs
      exact ⟨none, 0, 0, [], hcs, rfl, by unfold maxLen; omega, by simp, fun j v hj => by simp at hj⟩
    · simp only [List.cons.injEq, and_true] at hcs
      have hzl : zs.length = cap := by rw [hz]; simp
      refine ⟨some a, len, cap, (List.range len).map (fun i => Value.int .u8 (zs.getD i 0)), hcs, by simp, by omega, fun v hv => ?_, fun j v hj => ?_⟩
      · obtain ⟨i, _, rfl⟩ := List.mem_map.1 hv
        rfl
      · have hjl : j < len := by have := (List.getElem?_eq_some_iff.1 hj).1; simpa using this
        obtain ⟨b, off, ha, hc⟩ := ints_at hcell (by omega)
        refine ⟨b, off, by rw [ha], ?_⟩
        rw [hc j (by omega)]
        rw [List.getElem?_map, List.getElem?_range hjl] at hj
        simpa using hj
  obtain ⟨da, dn, dc, cs, rfl, e1, e2, e3, e4⟩ := walk
  refine (refuses_walk a0 a1 k n a3 a4 da dn dc cs W l4 u4 e1 e2 e3 e4).mono fun e W' ⟨he, bel⟩ => ?_
  subst he
  have hst := Below.trod laidOut (by kernel_rfl) (of_decide_eq_true (by kernel_rfl)) h2k bel hlt
  exact ⟨_, rfl, _, _, _, [], _, [], hW', trodAll_mk1 (shut_bool Tryz.underlying4 _), (trodAll_cons_mk (shut_int Tryz.underlying3 w0) (trodAll_cons_mk (shut_int Tryz.underlying3 w1) (trodAll_cons_mk hst (trodAll_cons_mk (shut_int Tryz.underlying3 w3) (trodAll_cons_mk (shut_int Tryz.underlying3 w4) trodAll_mk0))))), rfl, bel.frame _, fun h => by cases h⟩

theorem over : Rows.refusesRow.holds Tryz.pinned (OpenSpec.ofChange Rows.refusesSpec) :=
  OpenClaim.holds_of_wide 8 Tryz.f8 rfl rfl rfl rfl rfl rfl rfl ⟨rfl, rfl, rfl, rfl, rfl⟩ rfl rfl rfl rfl rfl (by kernel_rfl) Tryz.func8 (by kernel_rfl)
    (of_decide_eq_true (by kernel_rfl)) (by unfold Func.isWrapper; first | (rw [if_pos (by decide +kernel)]; kernel_rfl) | (rw [if_neg (by decide +kernel)]; exact ⟨rfl, rfl⟩))
    (fun os started H enc _ => lifted os started H enc)

theorem proved : Rows.RefusesSaid :=
  over
#print axioms proved

end Go.Proofs.YtdcinlkkjbclmaaGreat
