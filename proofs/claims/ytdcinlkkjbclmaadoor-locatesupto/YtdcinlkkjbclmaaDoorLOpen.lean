/- A script that is handed in, opened. -/
import Derived.Test.YtdcinlkkjbclmaaDoorLScript
import Derived.Test.YtdcinlkkjbclmaaDoorGate
import Derived.Deep.SlicePairs
import Derived.Deep.Matrix
namespace Go.Proofs.YtdcinlkkjbclmaaDoor
open Go.ChangeShapes Go.WideShapes Go.ChangeAt Go.RowKit Go.Deep

/-! ### what the bound gives -/
theorem bulk_mem {H : Type} (l : List (DataW H)) : ∀ d ∈ l, Rows.uptoBulk d ≤ Rows.uptoBulkAll l := by
  induction l with
  | nil => intro d hd; cases hd
  | cons x r ih =>
    intro d hd
    rw [Rows.uptoBulkAll]
    rcases List.mem_cons.1 hd with rfl | hd
    · exact Nat.le_add_right _ _
    · exact Nat.le_trans (ih d hd) (Nat.le_add_left _ _)
theorem bulk_pos {H : Type} (d : DataW H) : 0 < Rows.uptoBulk d := by
  cases d with
  | lit x => cases x <;> simp [Rows.uptoBulk]
  | _ => simp [Rows.uptoBulk]
theorem bulk_count {H : Type} (l : List (DataW H)) : l.length ≤ Rows.uptoBulkAll l := by
  induction l with
  | nil => exact Nat.zero_le _
  | cons x r ih =>
    have := bulk_pos x
    rw [Rows.uptoBulkAll, List.length_cons]
    omega
theorem bulk_slice {H : Type} {M : Nat} {es sp : List (DataW H)} (h : Rows.uptoBulk (.slice es sp) ≤ M) : es.length ≤ M ∧ ∀ d ∈ es, Rows.uptoBulk d ≤ M := by
  rw [Rows.uptoBulk] at h
  have h1 := bulk_count es
  refine ⟨by omega, fun d hd => ?_⟩
  have := bulk_mem es d hd
  omega
theorem bulk_agg {H : Type} {M : Nat} {ps : List (DataW H)} (h : Rows.uptoBulk (.agg ps) ≤ M) : ∀ d ∈ ps, Rows.uptoBulk d ≤ M := fun d hd => by
  rw [Rows.uptoBulk] at h
  have := bulk_mem ps d hd
  omega

theorem addr_head {w : World} {x : Addr} {v : Value} (h : w.cell? (x.add 0) = some v) : ∃ b o, x = ⟨b, o, none⟩ := by
  obtain ⟨b, o, s⟩ := x
  have hs : s = none := by simpa [Addr.add] using World.cell?_spot h
  exact ⟨b, o, by rw [hs]⟩

theorem list_pick {α : Type} {P : Nat → α → Prop} : ∀ n : Nat, (∀ i, i < n → ∃ c, P i c) → ∃ cs : List α, cs.length = n ∧ ∀ i c, cs[i]? = some c → P i c
  | 0, _ => ⟨[], rfl, fun i c h => by simp at h⟩
  | n + 1, h => by
    obtain ⟨cs, h1, h2⟩ := list_pick n (fun i hi => h i (by omega))
    obtain ⟨c, hc⟩ := h n (by omega)
    refine ⟨cs ++ [c], by simp [h1], fun i d hd => ?_⟩
    rcases Nat.lt_or_ge i n with h3 | h3
    · rw [List.getElem?_append_left (by omega)] at hd
      exact h2 i d hd
    · rw [List.getElem?_append_right (by omega)] at hd
      have hi : i - cs.length = 0 := by
        rcases Nat.eq_zero_or_pos (i - cs.length) with h4 | h4
        · exact h4
        · rw [List.getElem?_eq_none (by simp; omega)] at hd; cases hd
      rw [hi] at hd
      simp at hd
      subst hd
      obtain rfl : i = n := by omega
      exact hc

section
variable {H : Type} {enc : TypeId × Value → H} {W : World} {base : Nat} {held : Bool}

theorem bytes_in {a' : Addr} {L C : Nat} {zs : List Int} (hL : L ≤ C) (hz : zs.length = C) (hw : ∀ n ∈ zs, (Lit.int .u8 n).wf = true) (hc : ∀ c, c < C → W.cell? (a'.add c) = some (.int .u8 (zs.getD c 0))) :
    ((zs.take L).map Int.toNat = [] ∨ ∃ b o : Nat, a' = ⟨b, o, none⟩ ∧ W.rangeAt b o (((zs.take L).map Int.toNat).map B)) ∧ ∀ y ∈ (zs.take L).map Int.toNat, y < 256 := by
  refine ⟨?_, fun y hy => ?_⟩
  · rcases Nat.eq_zero_or_pos L with h0 | h0
    · left; rw [h0]; rfl
    · right
      obtain ⟨b, o, rfl⟩ := addr_head (hc 0 (by omega))
      refine ⟨b, o, rfl, fun j v hj => ?_⟩
      have hj' : j < L := by have := (List.getElem?_eq_some_iff.1 hj).1; simp at this; omega
      have hjz : j < zs.length := by omega
      have h1 := hc j (by omega)
      rw [Addr.add_mid] at h1
      rw [h1]
      have h2 := bounds_u8 (hw zs[j] (List.getElem_mem hjz))
      have h3 : zs.getD j 0 = zs[j] := by simp [hjz]
      rw [h3]
      simp only [List.getElem?_map, List.getElem?_take, hj', if_true, List.getElem?_eq_getElem hjz, Option.map_some, Option.some.injEq] at hj
      rw [← hj, B, Int.toNat_of_nonneg h2.1]
  · simp only [List.mem_map] at hy
    obtain ⟨n, hn, rfl⟩ := hy
    have := bounds_u8 (hw n (List.mem_of_mem_take hn))
    omega

theorem rows_of {fuel M : Nat} {v : Value} {x : DataW H × List MemPlace} (h : DataW.trod enc Tryd.prog W base (fun _ => true) held fuel 24 [v] = some x) (hb : Rows.uptoBulk x.1 ≤ M) :
    ∃ (Ls : List (List Nat)) (zn : Bool) (z : Nat → Bool), (SlLn W v Ls zn z ∧ ∀ p n k, v = .slice p n k → n ≤ k) ∧ Ls.length ≤ M ∧ ∀ i, i < Ls.length → (Ls.getD i []).length ≤ M ∧ ∀ y ∈ Ls.getD i [], y < 256 := by
  rcases open_int_rows Tryd.underlying24 Tryd.underlying31 Tryd.underlying5 (by kernel_rfl) cells5 h with ⟨hcs, _⟩ | ⟨a, len, cap, A, L, C, Z, hcs, _, hl, hm, rfl, hr⟩
  · simp at hcs
    subst hcs
    exact ⟨[], true, fun _ => true, ⟨Or.inl ⟨rfl, rfl, rfl⟩, fun p n k e => by simp at e; omega⟩, by simp, fun i hi => by simp at hi⟩
  · simp at hcs
    subst hcs
    obtain ⟨b1, b2⟩ := bulk_slice hb
    simp only [List.length_map, List.length_range] at b1
    have hlen : ((List.range len).map fun r => ((Z r).take (L r)).map Int.toNat).length = len := by simp
    have hat : ∀ i, i < len → ((List.range len).map fun r => ((Z r).take (L r)).map Int.toNat).getD i [] = ((Z i).take (L i)).map Int.toNat := fun i hi => by simp [hi]
    refine ⟨(List.range len).map fun r => ((Z r).take (L r)).map Int.toNat, false, fun r => (A r).isNone, ⟨Or.inr ⟨rfl, a, cap, by rw [hlen], ?_⟩, fun p n k e => by simp at e; omega⟩, by rw [hlen]; exact b1, fun i hi => ?_⟩
    · rcases Nat.eq_zero_or_pos len with h0 | h0
      · left; rw [h0]; rfl
      · right
        obtain ⟨b, o, rfl⟩ := addr_head (hr 0 (by omega)).1
        refine ⟨b, o, rfl, fun i hi => ?_⟩
        rw [hlen] at hi
        obtain ⟨h1, h2, h3, h4, h5, h6, h7⟩ := hr i (by omega)
        rw [Addr.add_mid] at h1
        refine ⟨_, h1, ?_⟩
        rw [hat i hi]
        have hxl : (((Z i).take (L i)).map Int.toNat).length = L i := by rw [List.length_map, List.length_take]; omega
        cases hA : A i with
        | none =>
          have hc0 := h6 hA
          have hl0 : L i = 0 := by omega
          left
          refine ⟨by show (A i).isNone = true; rw [hA]; rfl, by rw [hl0, hc0], by rw [hl0]; rfl⟩
        | some a' =>
          right
          refine ⟨by show (A i).isNone = false; rw [hA]; rfl, a', C i, by rw [hxl], ?_⟩
          exact (bytes_in h2 h4 h5 (h7 a' hA).2).1
    · rw [hlen] at hi
      obtain ⟨h1, h2, h3, h4, h5, h6, h7⟩ := hr i (by omega)
      rw [hat i hi]
      have hxl : (((Z i).take (L i)).map Int.toNat).length = L i := by rw [List.length_map, List.length_take]; omega
      have hd := b2 (intRow .u8 (A i) (L i) (Z i)) (List.mem_map.2 ⟨i, List.mem_range.2 hi, rfl⟩)
      cases hA : A i with
      | none =>
        have hc0 := h6 hA
        have hl0 : L i = 0 := by omega
        rw [hl0]
        exact ⟨by simp, fun y hy => by simp at hy⟩
      | some a' =>
        refine ⟨?_, (bytes_in h2 h4 h5 (h7 a' hA).2).2⟩
        rw [hA] at hd
        have := (bulk_slice (es := lits .u8 ((Z i).take (L i))) (sp := lits .u8 ((Z i).drop (L i))) hd).1
        rw [hxl]
        simp only [lits, List.length_map, List.length_take] at this
        omega

theorem nums_of {fuel M : Nat} {v : Value} {x : DataW H × List MemPlace} (h : DataW.trod enc Tryd.prog W base (fun _ => true) held fuel 25 [v] = some x) (hb : Rows.uptoBulk x.1 ≤ M) :
    ∃ ms : List Int, SlM W v ms ∧ ms.length ≤ M ∧ ∀ n ∈ ms, (Lit.int .i64 n).wf = true := by
  rcases open_ints Tryd.underlying25 Tryd.underlying3 (by kernel_rfl) h with ⟨hcs, _⟩ | ⟨a, len, cap, zs, hcs, _, hl, hm, hz, rfl, hcell, hwz⟩
  · simp at hcs
    subst hcs
    exact ⟨[], ⟨⟨none, 0, rfl, .inl rfl⟩, fun p n k e => by simp at e; omega⟩, by simp, fun n hn => by simp at hn⟩
  · simp at hcs
    subst hcs
    have hz' : zs.length = cap := by simpa using hz
    have hlen : (zs.take len).length = len := by rw [List.length_take, hz']; omega
    have b1 := (bulk_slice hb).1
    simp only [lits, List.length_map] at b1
    refine ⟨zs.take len, ⟨⟨some a, cap, by rw [hlen], ?_⟩, fun p n k e => by simp at e; omega⟩, b1, fun n hn => hwz n (List.mem_of_mem_take hn)⟩
    by_cases h0 : len = 0
    · left; subst h0; simp
    · right
      obtain ⟨b, o, rfl⟩ := addr_head (hcell 0 (by omega))
      refine ⟨b, o, rfl, fun j u hj => ?_⟩
      have hj' : j < len := by
        have := (List.getElem?_eq_some_iff.1 hj).1
        rw [List.length_map, hlen] at this
        exact this
      have hcj := hcell j (by omega)
      rw [Addr.add_mid] at hcj
      rw [hcj]
      have e : (zs.take len)[j]? = some (zs.getD j 0) := by
        have hjz : j < zs.length := by omega
        rw [List.getElem?_take, if_pos hj', List.getElem?_eq_getElem hjz, List.getD_eq_getElem?_getD, List.getElem?_eq_getElem hjz, Option.getD_some]
      rw [List.getElem?_map, e] at hj
      exact hj

theorem colFields : ∃ f0 f1 : Field, Tryd.prog.underlying 30 = some (.struct #[f0, f1]) ∧ f0.offset = 0 ∧ f1.offset = 1 ∧ f0.type = 24 ∧ f1.type = 25 := by
  refine ⟨_, _, Tryd.underlying30, ?_, ?_, ?_, ?_⟩ <;> rfl

theorem script_of {v : Value} {d : DataW H} {p : List MemPlace} (hok : Value.okWide Tryd.prog W .any base 22 v) (h : DataW.Trod enc Tryd.prog W 0 (fun _ => true) true 22 v d p) (hb : Rows.uptoBulk d ≤ 1048576) :
    ∃ cs : List ColI, SlC W v cs ∧ cs.length ≤ 1048576 ∧ (∀ c ∈ cs, ColOK c) ∧ ∀ c ∈ cs, ∀ n ∈ c.ms, (Lit.int .i64 n).wf = true := by
  obtain ⟨a, len, cap, rfl⟩ := okWide_slice Tryd.underlying22 hok
  obtain ⟨fuel, hf⟩ := h
  obtain ⟨f0, f1, hst, o0, o1, t0, t1⟩ := colFields
  rcases open_slice_pairs Tryd.underlying22 hst (by kernel_rfl) o0 o1 (by rw [t0]; kernel_rfl) (by rw [t1]; kernel_rfl) hf with ⟨hcs, _⟩ | ⟨x, l, c, m, n, V0, V1, D0, D1, P0, P1, hcs, _, hl, hm, hmm, hx, hr⟩
  · simp [Value.cells] at hcs
    obtain ⟨rfl, rfl, rfl⟩ := hcs
    exact ⟨[], ⟨none, 0, rfl, .inl rfl⟩, by simp, fun c hc => by simp at hc, fun c hc => by simp at hc⟩
  · simp [Value.cells] at hcs
    obtain ⟨rfl, rfl, rfl⟩ := hcs
    simp only [Prod.mk.injEq] at hx
    obtain ⟨rfl, rfl⟩ := hx
    simp only [if_true] at hmm
    subst hmm
    obtain ⟨b1, b2⟩ := bulk_slice hb
    simp only [List.length_map, List.length_range] at b1
    have each : ∀ i, i < len → ∃ c : ColI, ((SlLn W (V0 i) c.Ls c.zn c.z ∧ ∀ p n k, V0 i = .slice p n k → n ≤ k) ∧ SlM W (V1 i) c.ms ∧ ColOK c ∧ ∀ n ∈ c.ms, (Lit.int .i64 n).wf = true) := fun i hi => by
      obtain ⟨_, _, h3, h4⟩ := hr i (by omega)
      rw [t0] at h3
      rw [t1] at h4
      have hd := bulk_agg (b2 (.agg [D0 i, D1 i]) (List.mem_map.2 ⟨i, List.mem_range.2 hi, rfl⟩))
      obtain ⟨Ls, zn, z, s1, s2, s3⟩ := rows_of h3 (hd (D0 i) (by simp))
      obtain ⟨ms, m1, m2, m3⟩ := nums_of h4 (hd (D1 i) (by simp))
      exact ⟨⟨Ls, zn, z, ms⟩, s1, m1, ⟨s2, fun j hj => (s3 j hj).1, fun j hj => (s3 j hj).2, m2⟩, m3⟩
    obtain ⟨cs, e1, e2⟩ := list_pick len each
    refine ⟨cs, ⟨some x, _, by rw [e1], ?_⟩, by rw [e1]; exact b1, fun c hc => ?_, fun c hc => ?_⟩
    · rcases Nat.eq_zero_or_pos len with h0 | h0
      · left; exact List.eq_nil_of_length_eq_zero (by rw [e1, h0])
      · right
        obtain ⟨b, o, rfl⟩ := addr_head (show W.cell? (x.add 0) = some (V0 0) from by simpa using (hr 0 (by omega)).1)
        refine ⟨b, o, rfl, fun i c hc => ?_⟩
        have hi : i < len := by have := (List.getElem?_eq_some_iff.1 hc).1; omega
        obtain ⟨h1, h2, _, _⟩ := hr i (by omega)
        rw [Addr.add_mid] at h1 h2
        obtain ⟨s1, s2, _⟩ := e2 i c hc
        exact ⟨V0 i, V1 i, h1, by rw [Nat.add_assoc]; exact h2, s1.1, s2, s1.2⟩
    · obtain ⟨i, hi, rfl⟩ := List.getElem_of_mem hc
      exact (e2 i _ (List.getElem?_eq_getElem hi)).2.2.1
    · obtain ⟨i, hi, rfl⟩ := List.getElem_of_mem hc
      exact (e2 i _ (List.getElem?_eq_getElem hi)).2.2.2
end

end Go.Proofs.YtdcinlkkjbclmaaDoor
