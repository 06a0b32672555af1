/- The contract of platterref.Parity. -/
import Derived.Test.YtdcinlkkjbclmaaDoorRefCols
import Derived.Test.YtdcinlkkjbclmaaDoorMath
namespace Go.Proofs.YtdcinlkkjbclmaaDoor
open Go.RowKit

theorem par_sum {Ls : List (List Nat)} (h : AreCols Ls) (at' : Nat) (ha : at' < 16) (k : Nat) (hk : k ≤ Ls.length) :
    (parP Ls k).getD at' 0 = sumP (placeL Ls at' Ls.length) k ∧ (parQ Ls k).getD at' 0 = sumQ (placeL Ls at' Ls.length) k := by
  induction k with
  | zero => exact ⟨zero16_at at', zero16_at at'⟩
  | succ k ih =>
    obtain ⟨i1, i2⟩ := ih (by omega)
    have hc := h.col k (by omega)
    have p1 := parP_col h k (by omega)
    have q1 := parQ_col h k (by omega)
    simp only [parP, parQ, sumP, sumQ]
    rw [xorL_at p1.len hc.len at' ha, xorL_at q1.len (mulL_col hc _).len at' ha, mulL_at hc.len _ at' ha, i1, i2, placeL_at _ _ _ _ (by omega)]
    exact ⟨rfl, rfl⟩

theorem results_tmp3 {fn : Func} {t u v : Tmp} (h : fn.results = #[.tmp t, .tmp u, .tmp v]) (tmps : Array Value) (P : Program) (w : World) :
    (results fn tmps).run P w = .ok (.tuple #[tmps.getD t undef, tmps.getD u undef, tmps.getD v undef]) w := by
  simp [results, h]

theorem col_range {x : List Nat} (h : IsCol x) : (List.range 16).map (fun i => x.getD i 0) = x :=
  list16 (by simp) h.len (fun i hi => by simp [hi])

/-- data columns that are right by number and lengths -/
def ParOK (Ls : List (List Nat)) : Prop := 2 ≤ Ls.length ∧ Ls.length ≤ 6 ∧ AreCols Ls
theorem sized_cols {Ls : List (List Nat)} : Sized Ls [] ↔ AreCols Ls := ⟨fun h => ⟨fun i hi => h i hi rfl⟩, fun h i hi _ => h.col i hi⟩

set_option maxHeartbeats 2000000 in
theorem ref_par_any (v : Value) (Ls : List (List Nat)) (w : World) (hv : SlL w v Ls) (hL : Ls.length ≤ 1000000000) (hby : ∀ i, i < Ls.length → ∀ x ∈ Ls.getD i [], x < 256) :
    Calls Tryd.prog 9 #[v] w fun e w' => Below w.heap.size w w' ∧
      ((¬ ParOK Ls ∧ e = .returned (.tuple #[.slice none 0 0, .slice none 0 0, .int .i64 1])) ∨
       (ParOK Ls ∧ ∃ g g' : Nat, e = .returned (.tuple #[.slice (some ⟨g, 0, none⟩) 16 16, .slice (some ⟨g', 0, none⟩) 16 16, .int .i64 0]) ∧ Buf w' g (parP Ls Ls.length) ∧ Buf w' g' (parQ Ls Ls.length) ∧ w.heap.size ≤ g ∧ w.heap.size ≤ g')) := by
  have hmk := make16
  obtain ⟨a, cap, hve, hd⟩ := id hv
  subst hve
  have HV := hide hv
  clear hd hv
  go_enter Tryd.func9, Tryd.ntmps9
  go_wp2_with fail
  refine (sized_any _ _ Ls [] _ (unhide HV) ⟨none, 0, rfl, .inl rfl⟩ (by simp) hL hby).mono ?_
  rintro e w1 ⟨r, rfl, hr, hb1⟩
  rw [sized_cols] at hr
  have HB1 := hide hb1
  have HR := hide hr
  clear hb1 hr hby
  by_cases hok : ParOK Ls
  · obtain ⟨h2, h6, hc⟩ := hok
    have hrt : r = true := (unhide HR).2 hc
    subst hrt
    have h2i : ¬ (Ls.length : Int) < 2 := by omega
    have h6i : ¬ (6 : Int) < (Ls.length : Int) := by omega
    have HC := hide hc
    clear hc HR
    have hp := parP_col (unhide HC) Ls.length (Nat.le_refl _)
    have hq := parQ_col (unhide HC) Ls.length (Nat.le_refl _)
    have HPS := hide (par_sum (unhide HC))
    have hs1 := (unhide HB1).size
    go_wp2
    clear hmk
    go_loopw [8] (fun iv wr => ∃ k : Nat, k ≤ 16 ∧ iv = .int .i64 k ∧ Buf wr w1.heap.size (mixL (fun i => (parP Ls Ls.length).getD i 0) zero16 k) ∧ Buf wr (w1.heap.size + 1) (mixL (fun i => (parQ Ls Ls.length).getD i 0) zero16 k) ∧ Below w1.heap.size w1 wr) (fun i _ => 16 - (intOf i).toNat)
    case atStart =>
      refine ⟨0, by omega, rfl, ?_, ?_, ((Below.refl _ _).alloc (Nat.le_refl _) _).alloc (by simp) _⟩
      · rw [mixL_zero _ (by rfl)]
        exact (buf_zero w1).below ((Below.refl _ _).alloc (Nat.le_refl _) _) (by simp)
      · rw [mixL_zero _ (by rfl)]
        have := buf_zero (w1.alloc (.cells zA 5))
        simpa using this
    case round =>
      obtain ⟨k, hk, rfl, hb, hb', hbw⟩ := hrel
      have HB := hide hbw
      have HF := hide hb
      have HF' := hide hb'
      rcases Nat.lt_or_ge k 16 with hlt | hge
      · have hki : (k : Int) < 16 := by omega
        have hk0 : (0 : Int) ≤ (k : Int) := by omega
        obtain ⟨e1, e2⟩ := unhide HPS k hlt Ls.length (Nat.le_refl _)
        have hbP := hp.at k hlt
        have hbQ := hq.at k hlt
        have HVR := hide (((unhide HV).below (unhide HB1)).below hbw)
        clear hb hb' hbw
        go_wp2_with fail
        refine (place_any _ Ls k _ (unhide HVR) (unhide HC) (by omega) hlt).mono ?_
        rintro e w2 ⟨v2, rfl, hv2, hb2⟩
        have hb12 := (unhide HB).trans (hb2.mono (unhide HB).size)
        have hsm := sums_any v2 (placeL Ls k Ls.length) w2 hv2 (by rw [placeL_len]; omega) (placeL_lt (unhide HC) k)
        rw [placeL_len, ← e1, ← e2] at hsm
        have HSM := hide hsm
        have HB2 := hide hb2
        have HB12 := hide hb12
        clear hsm hv2 hb2 hb12 e1 e2 HVR
        go_wp2_with fail
        refine (unhide HSM).mono ?_
        rintro e w3 ⟨rfl, hb3⟩
        have hb13 := (unhide HB12).trans (hb3.mono (unhide HB12).size)
        have hbr3 := (unhide HB2).trans (hb3.mono (unhide HB2).size)
        have hsr := (unhide HB).size
        have f1 := (unhide HF).lt (by rw [mixL_len]; omega)
        have f2 := (unhide HF').lt (by rw [mixL_len]; omega)
        have g1 := (unhide HF).below hbr3 f1
        have g2 := (unhide HF').below hbr3 f2
        have c1 := g1.cell k (by rw [mixL_len]; exact hlt)
        have c2 := g1.frozen k (by rw [mixL_len]; exact hlt)
        rw [mixL_at _ _ _ hlt] at c1
        have n1 := g1.set k ((parP Ls Ls.length).getD k 0) (by rw [mixL_len]; exact hlt)
        rw [mixL_succ (fun i => (parP Ls Ls.length).getD i 0)] at n1
        have g2' := g2.other ⟨w1.heap.size, k, none⟩ (.int .u8 (((parP Ls Ls.length).getD k 0 : Nat) : Int)) (by simp)
        have d1 := g2'.cell k (by rw [mixL_len]; exact hlt)
        have d2 := g2'.frozen k (by rw [mixL_len]; exact hlt)
        rw [mixL_at _ _ _ hlt] at d1
        have n2 := g2'.set k ((parQ Ls Ls.length).getD k 0) (by rw [mixL_len]; exact hlt)
        rw [mixL_succ (fun i => (parQ Ls Ls.length).getD i 0)] at n2
        have n1' := n1.other ⟨w1.heap.size + 1, k, none⟩ (.int .u8 (((parQ Ls Ls.length).getD k 0 : Nat) : Int)) (by simp)
        have nb := (hb13.setCell (p := ⟨w1.heap.size, k, none⟩) (Nat.le_refl _) (.int .u8 (((parP Ls Ls.length).getD k 0 : Nat) : Int))).setCell (p := ⟨w1.heap.size + 1, k, none⟩) (by simp) (.int .u8 (((parQ Ls Ls.length).getD k 0 : Nat) : Int))
        have N1 := hide n1'
        have N2 := hide n2
        have NB := hide nb
        generalize (parP Ls Ls.length).getD k 0 = x at *
        generalize (parQ Ls Ls.length).getD k 0 = y at *
        have hwx : IntKind.u8.wrap (x : Int) = (x : Int) := by rw [IntKind.wrap_u8']; omega
        have hwy : IntKind.u8.wrap (y : Int) = (y : Int) := by rw [IntKind.wrap_u8']; omega
        clear hb13 hbr3 g1 g2 n1 n2 g2' n1' nb hb3 HSM HB2 HB12 HF HF' HB
        go_wp2
        go_roundw
        case rel => exact ⟨k + 1, by omega, by go_num, unhide N1, unhide N2, unhide NB⟩
        case measure => simp [intOf]; omega
      · obtain rfl : k = 16 := by omega
        rw [mixL_all, col_range hp] at hb
        rw [mixL_all, col_range hq] at hb'
        have F1 := hide hb
        have F2 := hide hb'
        have HBZ := hide ((unhide HB1).trans (hbw.mono hs1))
        clear hb hb' hbw HF HF' HB
        go_wp2
        refine bodyPost_ret (results_tmp3 rfl _ _ _) rfl ?_
        exact ⟨unhide HBZ, .inr ⟨⟨h2, h6, unhide HC⟩, w1.heap.size, w1.heap.size + 1, rfl, unhide F1, unhide F2, hs1, by omega⟩⟩
  · have HOK := hide hok
    have hcond : (Ls.length : Int) < 2 ∨ (6 : Int) < (Ls.length : Int) ∨ r = false := by
      by_cases h1 : (Ls.length : Int) < 2
      · exact Or.inl h1
      · by_cases h2 : (6 : Int) < (Ls.length : Int)
        · exact Or.inr (Or.inl h2)
        · refine Or.inr (Or.inr ?_)
          cases r with
          | false => rfl
          | true => exact absurd ⟨by omega, by omega, (unhide HR).1 rfl⟩ hok
    clear hok
    rcases hcond with h | h | h
    · go_wp2
      refine bodyPost_ret (results_tmp3 rfl _ _ _) rfl ?_
      exact ⟨unhide HB1, .inl ⟨unhide HOK, rfl⟩⟩
    · have h2 : ¬ (Ls.length : Int) < 2 := by omega
      go_wp2
      refine bodyPost_ret (results_tmp3 rfl _ _ _) rfl ?_
      exact ⟨unhide HB1, .inl ⟨unhide HOK, rfl⟩⟩
    · subst h
      by_cases h1 : (Ls.length : Int) < 2
      · go_wp2
        refine bodyPost_ret (results_tmp3 rfl _ _ _) rfl ?_
        exact ⟨unhide HB1, .inl ⟨unhide HOK, rfl⟩⟩
      · by_cases h2 : (6 : Int) < (Ls.length : Int)
        · go_wp2
          refine bodyPost_ret (results_tmp3 rfl _ _ _) rfl ?_
          exact ⟨unhide HB1, .inl ⟨unhide HOK, rfl⟩⟩
        · go_wp2
          refine bodyPost_ret (results_tmp3 rfl _ _ _) rfl ?_
          exact ⟨unhide HB1, .inl ⟨unhide HOK, rfl⟩⟩

end Go.Proofs.YtdcinlkkjbclmaaDoor
