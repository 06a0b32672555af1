/- A volume is made, and begins to be opened. -/
import Derived.Test.YtdcinlkkjbclmabGreatVRun
import Derived.Laws.CopyOwn
namespace Go.Proofs.YtdcinlkkjbclmabGreat
open Go.RowKit

theorem make_heard (w : World) : (Instr.makeMap 92 none).run Tryz.prog w = .ok (.map (some w.heap.size)) (w.alloc (.map #[] 0)) := by kernel_rfl
theorem make_told (w : World) : (Instr.makeMap 71 none).run Tryz.prog w = .ok (.map (some w.heap.size)) (w.alloc (.map #[] 0)) := by kernel_rfl
set_option maxRecDepth 100000 in
set_option maxHeartbeats 1000000 in
theorem work_any (vb : Nat) (w : World) :
    Calls Tryz.prog 41 #[.pointer (some ⟨vb, 0, none⟩)] w fun e w' => ∃ hb, e = .returned (.agg #[.pointer (some ⟨vb, 0, none⟩), .map (some hb), .nilFunc]) ∧ w.heap.size ≤ hb ∧ HeardB w' hb ∧ Below w.heap.size w w' := by
  have hm := make_heard
  go_enter Tryz.func41, Tryz.ntmps41
  go_wp2
  have hh := HeardB.new (w.alloc (.cells #[.pointer (some ⟨vb, 0, none⟩), .map (some (w.heap.size + 1)), .nilFunc] 94))
  rw [World.size_alloc] at hh
  refine bodyPost_ret (v := .agg #[.pointer (some ⟨vb, 0, none⟩), .map (some (w.heap.size + 1)), .nilFunc]) (by simp [results, Tryz.results41, go_sem]) rfl ⟨_, rfl, by omega, hh, ?_⟩
  exact ((Below.refl _ _).alloc (Nat.le_refl _) _).alloc (by simp) _

set_option maxRecDepth 100000 in
set_option maxHeartbeats 1000000 in
theorem begin_fresh (tb hb vb : Nat) (A : VA) (O : List Nat) (nx : Value) (w : World) (h : Vol w vb A O) (ht : OpenT w tb hb vb nx true) (hto : tb ∉ O) (hho : hb ∉ O) (hs : A.stand.length ≤ 8) (hl : A.wait.length ≤ 80000) :
    Calls Tryz.prog 102 #[.pointer (some ⟨tb, 0, none⟩)] w fun e w' => e = .returned (.tuple #[]) ∧ ∃ L : List (Nat × Value), L.map (·.1) = cur A.stand ∧ (∀ p ∈ L, Eight p.2) ∧ ∃ O', Vol w' vb (labelA A L) O' ∧ Chg (fun b => b ∈ O ∨ b = tb) w w' ∧ (∀ b ∈ O', b ∈ O ∨ w.heap.size ≤ b) ∧ OpenT w' tb hb vb (.func (.func 107) #[.pointer (some ⟨tb, 0, none⟩)] #[]) true := by
  have t53 := ht.c53
  have HV := hide h
  have HT := hide ht
  have htl := block_lt_of_cell t53
  clear h
  go_enter Tryz.func102, Tryz.ntmps102
  go_wp2_with fail
  refine (writeLabels_any tb vb A O w (unhide HV) (unhide HT).c0 hto hs (by omega)).mono ?_
  rintro e w1 ⟨rfl, L, hL1, hL2, O1, v1, ch1, o1⟩
  have ht1 := (unhide HT).chg ch1 hto hho
  have q2 := ht1.c2.1
  have qf := ht1.c2.2
  have HT1 := hide ht1
  have HV1 := hide v1
  have HC1 := hide ch1
  have HO1 := hide o1
  have HL1 := hide hL1
  have HL2 := hide hL2
  clear ht1 v1 ch1 o1 hL1 hL2 t53 ht
  go_wp2
  have hto1 : tb ∉ O1 := fun ho => by rcases unhide HO1 _ ho with q | q; exact hto q; omega
  refine bodyPost_ret (results_none rfl _ _ _) rfl ⟨rfl, L, unhide HL1, unhide HL2, O1, (unhide HV1).chg (X := fun b => b = tb) ((Chg.refl _ _).setCell _ _ (Or.inl rfl)) (fun b hb e => hto1 (e ▸ hb)), (((unhide HC1).mono (fun k _ hk => Or.inl hk)).setCell _ _ (Or.inl (Or.inr rfl))), unhide HO1, (unhide HT1).next _⟩

set_option maxRecDepth 100000 in
set_option maxHeartbeats 2000000 in
theorem begin_old (tb hb vb : Nat) (A : VA) (O : List Nat) (nx : Value) (w : World) (h : Vol w vb A O) (ht : OpenT w tb hb vb nx false) (hto : tb ∉ O) (hho : hb ∉ O) (hs : A.stand.length ≤ 8) (hl : A.wait.length ≤ 80000) :
    Calls Tryz.prog 102 #[.pointer (some ⟨tb, 0, none⟩)] w fun e w' => e = .returned (.tuple #[]) ∧ ∃ (O' : List Nat) (nx' : Value), Vol w' vb (looked A A.stand.length) O' ∧ Chg (fun b => b ∈ O ∨ b = tb) w w' ∧ (∀ b ∈ O', b ∈ O ∨ w.heap.size ≤ b) ∧ OpenT w' tb hb vb nx' false := by
  have t53 := ht.c53
  have t0 := ht.c0
  have HV := hide h
  have HT := hide ht
  have htl := block_lt_of_cell t53
  clear h ht
  go_enter Tryz.func102, Tryz.ntmps102
  go_wp2_with (go_at_call 58; refine (disks_any vb A O _ (unhide HV)).mono ?_; rintro e w1 ⟨rfl, rfl⟩)
  clear t53 t0
  obtain ⟨w0, hw0⟩ : ∃ w0, w0 = w1 := ⟨_, rfl⟩
  subst hw0
  go_loopw [26] (fun iv wr => ∃ (k : Nat) (Ok : List Nat), k ≤ A.stand.length ∧ iv = .int .i64 (k : Int) ∧ Vol wr vb (looked A k) Ok ∧ Chg (fun b => b ∈ O) w0 wr ∧ ∀ b ∈ Ok, b ∈ O ∨ w0.heap.size ≤ b) (fun i _ => A.stand.length - (intOf i).toNat)
  case atStart => exact ⟨0, O, Nat.zero_le _, rfl, unhide HV, Chg.refl _ _, fun b hb => Or.inl hb⟩
  case round =>
    obtain ⟨k, Ok, hk, rfl, hvk, hck, hok⟩ := hrel
    rcases Nat.lt_or_ge k A.stand.length with hlt | hge
    · have c1 : wr.cell? ⟨tb, 0, none⟩ = some (.pointer (some ⟨vb, 0, none⟩)) := by
        rw [World.cell?_of_block (w := w0) (hck.block tb htl hto)]
        exact (unhide HT).c0
      obtain ⟨f1, f2⟩ := looked_facts A k
      have HSN := hide (looked_succ A k)
      have HCK := hide hck
      have HOK := hide hok
      have hk0 : (0 : Int) ≤ (k : Int) := by omega
      have hk1 : (k : Int) < (A.stand.length : Int) := by omega
      have HG := hide (read_any tb vb (looked A k) Ok k 0 wr hvk c1 (by rw [f1]; exact hlt) (by omega))
      clear hvk hck hok f1 f2 c1
      go_wp2_with fail
      refine (unhide HG).mono ?_
      rintro e w3 ⟨rfl, hst⟩
      obtain ⟨O1, v1, ch1, o1⟩ := Step.trans (unhide HCK) (unhide HOK) hst
      have HV1 : Hid (Vol w3 vb (looked A (k + 1)) O1) := by rw [unhide HSN]; exact v1
      have HC1 := hide ch1
      have HO1 := hide o1
      clear hst v1 ch1 o1 HG
      go_wp2
      go_roundw
      case rel => exact ⟨k + 1, O1, by omega, by go_num, unhide HV1, unhide HC1, unhide HO1⟩
      case measure => simp [intOf]; omega
    · obtain rfl : k = A.stand.length := by omega
      have ht1 := (unhide HT).chg hck hto hho
      have q2 := ht1.c2.1
      have qf := ht1.c2.2
      have HT1 := hide ht1
      have HVK := hide hvk
      have HCK := hide hck
      have HOK := hide hok
      clear ht1 hvk hck hok
      go_wp2
      have hto1 : tb ∉ Ok := fun ho => by rcases unhide HOK _ ho with q | q; exact hto q; omega
      refine bodyPost_end (results_none rfl _ _ _) rfl ⟨rfl, Ok, _, (unhide HVK).chg (X := fun b => b = tb) ((Chg.refl _ _).setCell _ _ (Or.inl rfl)) (fun b hb e => hto1 (e ▸ hb)), (((unhide HCK).mono (fun k _ hk => Or.inl hk)).setCell _ _ (Or.inl (Or.inr rfl))), unhide HOK, (unhide HT1).next _⟩

end Go.Proofs.YtdcinlkkjbclmabGreat
