/- Commands are given: give, read, makeSafe. -/
import Derived.Test.YtdcinlkkjbclmabGreatVRead
namespace Go.Proofs.YtdcinlkkjbclmabGreat
open Go.RowKit

/-- a command is given, unless its disk is gone -/
def gaveA (A : VA) (kind : Int) (disk : Nat) (sector : Int) (data : Value) : VA :=
  if (A.stand.getD disk 0 == 1) = true then A else { A with wait := A.wait ++ [⟨0, kind, (disk : Int), sector, data⟩] }
theorem gaveA_stand (A : VA) (kind : Int) (disk : Nat) (sector : Int) (data : Value) : (gaveA A kind disk sector data).stand = A.stand := by unfold gaveA; split <;> rfl
theorem gaveA_wait (A : VA) (kind : Int) (disk : Nat) (sector : Int) (data : Value) : (gaveA A kind disk sector data).wait.length ≤ A.wait.length + 1 := by unfold gaveA; split <;> simp

theorem data_nil (w : World) (i k d s : Int) : DataIn w ⟨i, k, d, s, .slice none 0 0⟩ := ⟨[], World.ownsRow_nil _ _ _ _, Or.inl rfl, fun x hx => by simp at hx⟩
theorem Step.of_nil {w w' : World} {O : List Nat} {vb : Nat} {A' : VA} (h : ∃ O', Vol w' vb A' O' ∧ Chg (fun b => b ∈ O) w w' ∧ ∀ b ∈ O', b ∈ O ∨ b ∈ dBlk (.slice none 0 0) ∨ w.heap.size ≤ b) : Step w O w' vb A' := by
  obtain ⟨O', h1, h2, h3⟩ := h
  refine ⟨O', h1, h2, fun b hb => ?_⟩
  rcases h3 b hb with q | q | q
  · exact Or.inl q
  · simp [dBlk] at q
  · exact Or.inr q
set_option maxHeartbeats 1000000 in
theorem give_any (vb : Nat) (A : VA) (O : List Nat) (kind : Int) (disk : Nat) (sector : Int) (data : Value) (w : World) (h : Vol w vb A O) (hd : disk < A.stand.length) (hl : A.wait.length ≤ 100000) (hs : IsSl data) (hdc : DataIn w ⟨0, kind, (disk : Int), sector, data⟩) (hno : ∀ b ∈ dBlk data, b ∉ O) :
    Calls Tryz.prog 114 #[.pointer (some ⟨vb, 0, none⟩), .int .i64 kind, .int .i64 (disk : Int), .int .i64 sector, data] w fun e w' => e = .returned (.tuple #[]) ∧ ∃ O', Vol w' vb (gaveA A kind disk sector data) O' ∧ Chg (fun b => b ∈ O) w w' ∧ ∀ b ∈ O', b ∈ O ∨ b ∈ dBlk data ∨ w.heap.size ≤ b := by
  obtain ⟨G, hG, _⟩ := id h
  have c0 : w.cell? ⟨vb, 0, none⟩ = some (.slice (some ⟨G.sb, 0, none⟩) A.stand.length A.stand.length) := hG.blk.cell 0
  have s0 := stand_at hG.std disk hd
  have hd0 : (0 : Int) ≤ (disk : Int) := by omega
  have hd1 : (disk : Int) < (A.stand.length : Int) := by omega
  have hp := wait_put vb A O ⟨0, kind, (disk : Int), sector, data⟩ w h hl hs hdc hno
  simp only [Cmd.cells] at hp
  have HP := hide hp
  have HV := hide h
  clear h hG hp hdc hno
  unfold gaveA
  generalize A.stand.getD disk 0 = s at *
  obtain ⟨da, dn, dc, rfl⟩ := hs
  cases hs1 : (s == 1)
  · rw [if_neg (by decide)]
    go_enter Tryz.func114, Tryz.ntmps114
    go_wp2_with fail
    refine (unhide HP).mono ?_
    rintro e w1 ⟨rfl, hst⟩
    have HST := hide hst
    clear hst c0 s0
    go_wp2
    refine bodyPost_end (results_none rfl _ _ _) rfl ⟨rfl, unhide HST⟩
  · rw [if_pos rfl]
    go_enter Tryz.func114, Tryz.ntmps114
    go_wp2
    refine bodyPost_ret (results_none rfl _ _ _) rfl ⟨rfl, O, unhide HV, Chg.refl _ _, fun b hb => Or.inl hb⟩

set_option maxRecDepth 100000 in
set_option maxHeartbeats 1000000 in
theorem read_any (tb vb : Nat) (A : VA) (O : List Nat) (disk : Nat) (sector : Int) (w : World) (h : Vol w vb A O) (ht : w.cell? ⟨tb, 0, none⟩ = some (.pointer (some ⟨vb, 0, none⟩))) (hd : disk < A.stand.length) (hl : A.wait.length ≤ 100000) :
    Calls Tryz.prog 108 #[.pointer (some ⟨tb, 0, none⟩), .agg #[.int .i64 (disk : Int), .int .i64 sector]] w fun e w' => e = .returned (.tuple #[]) ∧ Step w O w' vb (gaveA A 1 disk sector (.slice none 0 0)) := by
  have htl := block_lt_of_cell ht
  have HV := hide h
  clear h
  go_enter Tryz.func108, Tryz.ntmps108
  go_wp2_with fail
  have hbw := (Below.refl w.heap.size w).alloc (Nat.le_refl _) (.cells #[.int .i64 (disk : Int), .int .i64 sector] 126)
  have hbk := Blk.new w #[.int .i64 (disk : Int), .int .i64 sector] 126
  generalize w.alloc (.cells #[.int .i64 (disk : Int), .int .i64 sector] 126) = w1 at *
  refine region_tail 8 (by kernel_rfl) (by kernel_rfl) ?_
  rintro w2 hw2
  have HB2 : Hid (Below w.heap.size w w2) := by rw [hw2]; exact hbw.drew
  have D0 : w2.cell? ⟨tb, 0, none⟩ = some (.pointer (some ⟨vb, 0, none⟩)) := by rw [(unhide HB2).cell (by exact htl)]; exact ht
  have D1 : w2.cell? ⟨w.heap.size, 0, none⟩ = some (.int .i64 (disk : Int)) := by rw [hw2]; exact hbk.cell 0
  have D2 : w2.cell? ⟨w.heap.size, 1, none⟩ = some (.int .i64 sector) := by rw [hw2]; exact hbk.cell 1
  clear hw2 hbw hbk ht
  simp only [List.take_succ_cons, List.take_zero, List.drop_succ_cons, List.drop_zero]
  repeat (refine wpStill_step (fun K hK => ?_); go_simp; (try go_ints); refine hK _ ?_; clear hK K)
  refine wpStill_nil ?_
  go_wp2_with fail
  refine (give_any vb A O 1 disk sector (.slice none 0 0) w2 ((unhide HV).new (unhide HB2)) hd hl ⟨none, 0, 0, rfl⟩ (data_nil _ _ _ _ _) (by simp [dBlk])).mono ?_
  rintro e w3 ⟨rfl, hst⟩
  have HST := hide (Step.new (unhide HB2) (Step.of_nil hst))
  clear hst D0 D1 D2
  go_wp2
  refine bodyPost_end (results_none rfl _ _ _) rfl ⟨rfl, unhide HST⟩

/-- barriers for these disks -/
def safeA (A : VA) (L : List Nat) : VA := L.foldl (fun A d => gaveA A 3 d 0 (.slice none 0 0)) A
theorem safeA_snoc (A : VA) (L : List Nat) (d : Nat) : safeA A (L ++ [d]) = gaveA (safeA A L) 3 d 0 (.slice none 0 0) := by unfold safeA; rw [List.foldl_append]; rfl
theorem safeA_facts (A : VA) (L : List Nat) : (safeA A L).stand = A.stand ∧ (safeA A L).wait.length ≤ A.wait.length + L.length := by
  unfold safeA
  induction L generalizing A with
  | nil => exact ⟨rfl, Nat.le_refl _⟩
  | cons d r ih =>
    obtain ⟨h1, h2⟩ := ih (gaveA A 3 d 0 (.slice none 0 0))
    have h3 := gaveA_wait A 3 d 0 (.slice none 0 0)
    refine ⟨h1.trans (gaveA_stand _ _ _ _ _), ?_⟩
    simp only [List.length_cons, List.foldl_cons] at *
    omega
/-- a list of disks -/
def DiskL (w : World) (v : Value) (L : List Nat) (lb : Option Nat) : Prop := ∃ (la : Option Addr) (c : Nat), v = .slice la L.length c ∧ ∀ (i d : Nat), L[i]? = some d → ∃ b, lb = some b ∧ la = some ⟨b, 0, none⟩ ∧ w.cell? ⟨b, i, none⟩ = some (.int .i64 (d : Int))
theorem diskL_own {w : World} {base : Nat} {v : Value} {L : List Nat} (h : w.ownsRow base 3 1 v L.length (ints L)) : ∃ lb, DiskL w v L lb ∧ ∀ b, lb = some b → base ≤ b := by
  have h' := h
  rcases h.2 with ⟨rfl, h0⟩ | ⟨g, cap, cur, rfl, hg, hh, _⟩
  · exact ⟨none, ⟨none, 0, by rw [h0], fun i d hi => by rw [List.length_eq_zero_iff.1 h0] at hi; simp at hi⟩, fun b hb => by cases hb⟩
  · refine ⟨some g, ⟨_, cap, rfl, fun i d hi => ⟨g, rfl, rfl, ?_⟩⟩, fun b hb => by cases hb; exact hg⟩
    have hi' : i < L.length := (List.getElem?_eq_some_iff.1 hi).1
    rw [h'.cellAt i (by omega)]
    unfold ints
    rw [List.getElem?_map, hi]
    rfl

set_option maxRecDepth 100000 in
set_option maxHeartbeats 1000000 in
theorem makeSafe_any (tb vb : Nat) (A : VA) (O : List Nat) (v : Value) (L : List Nat) (lb : Option Nat) (w : World) (h : Vol w vb A O) (ht : w.cell? ⟨tb, 0, none⟩ = some (.pointer (some ⟨vb, 0, none⟩))) (hto : tb ∉ O) (hv : DiskL w v L lb) (hlb : ∀ b, lb = some b → b ∉ O) (hL : ∀ d ∈ L, d < A.stand.length) (hl : A.wait.length + L.length ≤ 100000) :
    Calls Tryz.prog 112 #[.pointer (some ⟨tb, 0, none⟩), v] w fun e w' => e = .returned (.tuple #[]) ∧ Step w O w' vb (safeA A L) := by
  obtain ⟨la, c, rfl, hv⟩ := hv
  have htl := block_lt_of_cell ht
  have HV := hide hv
  have HL := hide hL
  have HVol := hide h
  have HT := hide ht
  have HLB := hide hlb
  clear hv hL h ht hlb
  go_enter Tryz.func112, Tryz.ntmps112
  go_wp2
  go_loopw [8] (fun iv wr => ∃ (k : Nat) (Ok : List Nat), k ≤ L.length ∧ iv = .int .i64 (k : Int) ∧ Vol wr vb (safeA A (L.take k)) Ok ∧ Chg (fun b => b ∈ O) w wr ∧ ∀ b ∈ Ok, b ∈ O ∨ w.heap.size ≤ b) (fun i _ => L.length - (intOf i).toNat)
  case atStart => exact ⟨0, O, Nat.zero_le _, rfl, by simpa [safeA] using unhide HVol, Chg.refl _ _, fun b hb => Or.inl hb⟩
  case round =>
    obtain ⟨k, Ok, hk, rfl, hvk, hck, hok⟩ := hrel
    rcases Nat.lt_or_ge k L.length with hlt | hge
    · obtain ⟨d, hd⟩ : ∃ d, L[k]? = some d := ⟨L[k], List.getElem?_eq_getElem hlt⟩
      obtain ⟨b, hb, rfl, hcell⟩ := unhide HV k d hd
      have hdl := unhide HL d (List.mem_of_getElem? hd)
      have hbo := unhide HLB b hb
      clear hb
      have c0 : wr.cell? ⟨b, k, none⟩ = some (.int .i64 (d : Int)) := by
        rw [World.cell?_of_block (w := w) (hck.block b (block_lt_of_cell hcell) hbo)]
        exact hcell
      have c1 : wr.cell? ⟨tb, 0, none⟩ = some (.pointer (some ⟨vb, 0, none⟩)) := by
        rw [World.cell?_of_block (w := w) (hck.block tb htl hto)]
        exact unhide HT
      have hsn : safeA A (L.take (k + 1)) = gaveA (safeA A (L.take k)) 3 d 0 (.slice none 0 0) := by
        rw [List.take_succ_eq_append_getElem hlt, safeA_snoc]
        congr 1
        rw [List.getElem?_eq_getElem hlt] at hd
        exact Option.some.inj hd
      obtain ⟨f1, f2⟩ := safeA_facts A (L.take k)
      rw [List.length_take] at f2
      have HSN := hide hsn
      have HVK := hide hvk
      have HCK := hide hck
      have HOK := hide hok
      have hk0 : (0 : Int) ≤ (k : Int) := by omega
      have hk1 : (k : Int) < (L.length : Int) := by omega
      have hdl' : d < (safeA A (L.take k)).stand.length := by rw [f1]; exact hdl
      have hwl : (safeA A (L.take k)).wait.length ≤ 100000 := by omega
      have HG := hide (give_any vb (safeA A (L.take k)) Ok 3 d 0 (.slice none 0 0) wr hvk hdl' hwl ⟨none, 0, 0, rfl⟩ (data_nil _ _ _ _ _) (by simp [dBlk]))
      clear hsn hvk hck hok hd hcell f1 f2 hdl' hwl
      go_wp2_with fail
      refine (unhide HG).mono ?_
      rintro e w1 ⟨rfl, hst⟩
      obtain ⟨O1, v1, ch1, o1⟩ := Step.trans (unhide HCK) (unhide HOK) (Step.of_nil hst)
      have HV1 : Hid (Vol w1 vb (safeA A (L.take (k + 1))) O1) := by rw [unhide HSN]; exact v1
      have HC1 := hide ch1
      have HO1 := hide o1
      clear hst v1 ch1 o1 c0 c1 HG
      go_wp2
      go_roundw
      case rel => exact ⟨k + 1, O1, by omega, by go_num, unhide HV1, unhide HC1, unhide HO1⟩
      case measure => simp [intOf]; omega
    · obtain rfl : k = L.length := by omega
      rw [List.take_length] at hvk
      have HVK := hide hvk
      have HCK := hide hck
      have HOK := hide hok
      clear hvk hck hok
      go_wp2
      refine bodyPost_end (results_none rfl _ _ _) rfl ⟨rfl, Ok, unhide HVK, unhide HCK, unhide HOK⟩

end Go.Proofs.YtdcinlkkjbclmabGreat
