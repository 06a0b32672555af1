/- What a volume is asked: how many disks, which are current, how it stands. -/
import Derived.Test.YtdcinlkkjbclmaaGreatVDef
import Derived.Deep.AppendLies
namespace Go.Proofs.YtdcinlkkjbclmaaGreat
open Go.RowKit

theorem stand_at {w : World} {b : Nat} {l : List Int} (h : Blk w b (l.map (Value.int .i64)).toArray 3) (i : Nat) (hi : i < l.length) : w.cell? ⟨b, i, none⟩ = some (.int .i64 (l.getD i 0)) := by
  rw [h.cell]
  simp [hi]
theorem disks_any (vb : Nat) (A : VA) (O : List Nat) (w : World) (h : Vol w vb A O) :
    Calls Tryz.prog 106 #[.pointer (some ⟨vb, 0, none⟩)] w fun e w' => e = .returned (.int .i64 (A.stand.length : Int)) ∧ w' = w := by
  obtain ⟨G, h, _⟩ := h
  have c0 := h.blk.cell 0
  have c0' : w.cell? ⟨vb, 0, none⟩ = some (.slice (some ⟨G.sb, 0, none⟩) A.stand.length A.stand.length) := c0
  clear c0 h
  go_enter Tryz.func106, Tryz.ntmps106
  go_wp2
  go_ret
  exact ⟨rfl, rfl⟩
theorem state_any (vb : Nat) (A : VA) (O : List Nat) (w : World) (h : Vol w vb A O) :
    Calls Tryz.prog 73 #[.pointer (some ⟨vb, 0, none⟩)] w fun e w' => e = .returned (.int .i64 A.state) ∧ w' = w := by
  obtain ⟨G, h, _⟩ := h
  have c2 : w.cell? ⟨vb, 2, none⟩ = some (.int .i64 A.state) := h.blk.cell 2
  clear h
  go_enter Tryz.func73, Tryz.ntmps73
  go_wp2
  go_ret
  exact ⟨rfl, rfl⟩
theorem isCurrent_any (vb : Nat) (A : VA) (O : List Nat) (d : Nat) (w : World) (h : Vol w vb A O) (hd : d < A.stand.length) :
    Calls Tryz.prog 133 #[.pointer (some ⟨vb, 0, none⟩), .int .i64 (d : Int)] w fun e w' => e = .returned (.bool (A.stand.getD d 0 == 0)) ∧ w' = w := by
  obtain ⟨G, h, _⟩ := h
  have c0 : w.cell? ⟨vb, 0, none⟩ = some (.slice (some ⟨G.sb, 0, none⟩) A.stand.length A.stand.length) := h.blk.cell 0
  have s0 := stand_at h.std d hd
  have hd0 : (0 : Int) ≤ (d : Int) := by omega
  have hd1 : (d : Int) < (A.stand.length : Int) := by omega
  clear h
  generalize A.stand.getD d 0 = s at *
  go_enter Tryz.func133, Tryz.ntmps133
  go_wp2
  go_ret
  exact ⟨rfl, rfl⟩

/-- the disks that are current, of the first k -/
def curTo (l : List Int) (k : Nat) : List Nat := (List.range k).filter (fun i => l.getD i 0 == 0)
def cur (l : List Int) : List Nat := curTo l l.length
theorem curTo_succ (l : List Int) (k : Nat) : curTo l (k + 1) = if (l.getD k 0 == 0) = true then curTo l k ++ [k] else curTo l k := by
  unfold curTo
  rw [List.range_succ, List.filter_append]
  split
  · rename_i h; simp [List.filter_cons]; simpa using h
  · rename_i h; simp [List.filter_cons]; simpa using h
theorem curTo_len (l : List Int) (k : Nat) : (curTo l k).length ≤ k := by
  unfold curTo
  have := List.length_filter_le (fun i => l.getD i 0 == 0) (List.range k)
  simpa using this
def ints (l : List Nat) : List Value := l.map (fun (i : Nat) => Value.int .i64 (i : Int))

theorem Tryz.infoI : (Tryz.prog.info? 3).map (fun i => (i.zero, i.size, i.bytes)) = some (some (.int .i64 0), 1, 8) := by kernel_rfl
theorem info_parts {P : Program} {t : TypeId} {z : Value} {s b : Nat} (h : (P.info? t).map (fun i => (i.zero, i.size, i.bytes)) = some (some z, s, b)) : ∃ i, P.info? t = some i ∧ i.zero = some z ∧ i.size = s ∧ i.bytes = b := by
  obtain ⟨i, hi, hz⟩ := Option.map_eq_some_iff.1 h
  simp only [Prod.mk.injEq] at hz
  exact ⟨i, hi, hz.1, hz.2.1, hz.2.2⟩
theorem ownsRow_keep {w w' : World} {base : Nat} {e : TypeId} {size : Nat} {v : Value} {n : Nat} {xs : List Value} (h : w.ownsRow base e size v n xs) (hb : Below w.heap.size w w') : w'.ownsRow base e size v n xs := by
  obtain ⟨h1, h2⟩ := h
  refine ⟨h1, ?_⟩
  rcases h2 with h2 | ⟨g, cap, cur, rfl, hg, hh, r⟩
  · exact Or.inl h2
  · exact Or.inr ⟨g, cap, cur, rfl, hg, (hb.block g (Array.getElem?_eq_some_iff.1 hh).1).trans hh, r⟩
theorem cell_one_new (w : World) (v : Value) (t : TypeId) : ∀ j u, [v][j]? = some u → (w.alloc (.cells #[v] t)).cell? ((⟨w.heap.size, 0, none⟩ : Addr).add j) = some u := fun j u hj => by
  rw [Addr.add_mid, Nat.zero_add, World.cell?_alloc_at _ _ _ _ rfl]
  simpa using hj

set_option maxHeartbeats 1000000 in
theorem current_any (vb : Nat) (A : VA) (O : List Nat) (w : World) (h : Vol w vb A O) (hs : A.stand.length ≤ 8) :
    Calls Tryz.prog 123 #[.pointer (some ⟨vb, 0, none⟩)] w fun e w' => ∃ v, e = .returned v ∧ w'.ownsRow w.heap.size 3 1 v (cur A.stand).length (ints (cur A.stand)) ∧ Below w.heap.size w w' := by
  obtain ⟨i3, hi3, hz30, hz31, hz32⟩ := info_parts Tryz.infoI
  obtain ⟨G, hG, _⟩ := id h
  have c0 : w.cell? ⟨vb, 0, none⟩ = some (.slice (some ⟨G.sb, 0, none⟩) A.stand.length A.stand.length) := hG.blk.cell 0
  have HV := hide h
  clear h hG
  go_enter Tryz.func123, Tryz.ntmps123
  go_wp2
  clear c0
  go_loopw [3, 10] (fun ov iv wr => ∃ k : Nat, k ≤ A.stand.length ∧ iv = .int .i64 (k : Int) ∧ Below w.heap.size w wr ∧ wr.ownsRow w.heap.size 3 1 ov (curTo A.stand k).length (ints (curTo A.stand k))) (fun _ i _ => A.stand.length - (intOf i).toNat)
  case atStart => exact ⟨0, Nat.zero_le _, rfl, Below.refl _ _, World.ownsRow_nil _ _ _ _⟩
  case round =>
    obtain ⟨k, hk, rfl, hbw, how⟩ := hrel
    have HB := hide hbw
    have HO := hide how
    have hsw := hbw.size
    have hlen := curTo_len A.stand k
    clear how
    rcases Nat.lt_or_ge k A.stand.length with hlt | hge
    · have hk1 : (k : Int) < (A.stand.length : Int) := by omega
      have hsu := curTo_succ A.stand k
      have HVr := hide ((unhide HV).new hbw)
      clear hbw
      go_wp2_with fail
      refine (isCurrent_any vb A O k wr (unhide HVr) hlt).mono ?_
      rintro e w1 ⟨rfl, rfl⟩
      cases hc : (A.stand.getD k 0 == 0)
      · rw [hc, if_neg (by decide)] at hsu
        have HSU := hide hsu
        clear hsu hc
        go_wp2
        go_roundw
        case rel => exact ⟨k + 1, by omega, by go_num, unhide HB, by rw [unhide HSU]; exact unhide HO⟩
        case measure => simp [intOf]; omega
      · rw [hc, if_pos rfl] at hsu
        have HSU := hide hsu
        have hba := (Below.refl w1.heap.size w1).alloc (Nat.le_refl _) (.cells #[.int .i64 (k : Int)] 3)
        have HL3 := hide (ownsRow_keep (unhide HO) hba)
        have HN1 := hide (cell_one_new w1 (.int .i64 (k : Int)) 3)
        clear hsu hc hba
        generalize hcl : curTo A.stand k = cl at *
        go_wp2_with (at_builtin; refine wpList_append_lies _ rfl _ _ 50 rfl w.heap.size 3 i3 (.int .i64 0) 1 8 Tryz.underlying50 hi3 hz30 hz31 hz32 rfl (by decide) u3 cl.length (ints cl) rfl (unhide HL3) ⟨w1.heap.size, 0, none⟩ 1 1 [.int .i64 (k : Int)] rfl rfl (unhide HN1) (by intro u hu; simp only [List.mem_singleton] at hu; subst hu; rfl) (by decide) (by unfold maxLen; omega) (by omega) (by simp; omega) (w1.heap.size + 1) (by simp) ?_)
        intro g2 c2 w4 hown2 hgrow2 hat2 hlt2
        have HO4 : Hid (w4.ownsRow w.heap.size 3 1 (.slice (some ⟨g2, 0, none⟩) (cl.length + 1) c2) (curTo A.stand (k + 1)).length (ints (curTo A.stand (k + 1)))) := by
          rw [unhide HSU, List.length_append]
          unfold ints
          rw [List.map_append]
          exact hown2
        have HB4 : Hid (Below w.heap.size w w4) := ((unhide HB).alloc hsw _).grown hgrow2 (by simp; omega) (fun j hj => ((unhide HL3).lt j hj).1)
        clear hown2 hgrow2 hat2 HL3 HN1 HSU
        go_wp2
        go_roundw
        case rel => exact ⟨k + 1, by omega, by go_num, unhide HB4, unhide HO4⟩
        case measure => simp [intOf]; omega
    · obtain rfl : k = A.stand.length := by omega
      clear hbw
      go_wp2
      go_ret
      exact ⟨_, rfl, unhide HO, unhide HB⟩

end Go.Proofs.YtdcinlkkjbclmaaGreat

/- Commands are given: give, read, makeSafe. -/
namespace Go.Proofs.YtdcinlkkjbclmaaGreat
open Go.RowKit

/-- a command is given, unless its disk is gone -/
def gaveA (A : VA) (kind : Int) (disk : Nat) (sector : Int) (data : Value) : VA :=
  if (A.stand.getD disk 0 == 1) = true then A else { A with wait := A.wait ++ [⟨0, kind, (disk : Int), sector, data⟩] }
theorem gaveA_stand (A : VA) (kind : Int) (disk : Nat) (sector : Int) (data : Value) : (gaveA A kind disk sector data).stand = A.stand := by unfold gaveA; split <;> rfl
theorem gaveA_wait (A : VA) (kind : Int) (disk : Nat) (sector : Int) (data : Value) : (gaveA A kind disk sector data).wait.length ≤ A.wait.length + 1 := by unfold gaveA; split <;> simp

theorem data_nil (w : World) (i k d s : Int) : DataIn w ⟨i, k, d, s, .slice none 0 0⟩ := ⟨[], World.ownsRow_nil _ _ _ _, Or.inl rfl, fun x hx => by simp at hx⟩
theorem Step.of_nil {w w' : World} {O : List Nat} {vb : Nat} {A' : VA} (h : ∃ O', Vol w' vb A' O' ∧ Chg (fun b => b ∈ O) w w' ∧ ∀ b ∈ O', b ∈ O ∨ b ∈ dBlk (.slice none 0 0) ∨ w.heap.size ≤ b) : Step w O w' vb A' := by
  obtain ⟨O', h1, h2, h3⟩ := h
  refine ⟨O', h1, h2, fun b hb => ?_⟩
  rcases h3 b hb with q | q | q
  · exact Or.inl q
  · simp [dBlk] at q
  · exact Or.inr q
set_option maxHeartbeats 1000000 in
theorem give_any (vb : Nat) (A : VA) (O : List Nat) (kind : Int) (disk : Nat) (sector : Int) (data : Value) (w : World) (h : Vol w vb A O) (hd : disk < A.stand.length) (hl : A.wait.length ≤ 100000) (hs : IsSl data) (hdc : DataIn w ⟨0, kind, (disk : Int), sector, data⟩) (hno : ∀ b ∈ dBlk data, b ∉ O) :
    Calls Tryz.prog 169 #[.pointer (some ⟨vb, 0, none⟩), .int .i64 kind, .int .i64 (disk : Int), .int .i64 sector, data] w fun e w' => e = .returned (.tuple #[]) ∧ ∃ O', Vol w' vb (gaveA A kind disk sector data) O' ∧ Chg (fun b => b ∈ O) w w' ∧ ∀ b ∈ O', b ∈ O ∨ b ∈ dBlk data ∨ w.heap.size ≤ b := by
  obtain ⟨G, hG, _⟩ := id h
  have c0 : w.cell? ⟨vb, 0, none⟩ = some (.slice (some ⟨G.sb, 0, none⟩) A.stand.length A.stand.length) := hG.blk.cell 0
  have s0 := stand_at hG.std disk hd
  have hd0 : (0 : Int) ≤ (disk : Int) := by omega
  have hd1 : (disk : Int) < (A.stand.length : Int) := by omega
  have hp := wait_put vb A O ⟨0, kind, (disk : Int), sector, data⟩ w h hl hs hdc hno
  simp only [Cmd.cells] at hp
  have HP := hide hp
  have HV := hide h
  clear h hG hp hdc hno
  unfold gaveA
  generalize A.stand.getD disk 0 = s at *
  obtain ⟨da, dn, dc, rfl⟩ := hs
  cases hs1 : (s == 1)
  · rw [if_neg (by decide)]
    go_enter Tryz.func169, Tryz.ntmps169
    go_wp2_with fail
    refine (unhide HP).mono ?_
    rintro e w1 ⟨rfl, hst⟩
    have HST := hide hst
    clear hst c0 s0
    go_wp2
    refine bodyPost_end (results_none rfl _ _ _) rfl ⟨rfl, unhide HST⟩
  · rw [if_pos rfl]
    go_enter Tryz.func169, Tryz.ntmps169
    go_wp2
    refine bodyPost_ret (results_none rfl _ _ _) rfl ⟨rfl, O, unhide HV, Chg.refl _ _, fun b hb => Or.inl hb⟩

set_option maxRecDepth 100000 in
set_option maxHeartbeats 1000000 in
theorem read_any (tb vb : Nat) (A : VA) (O : List Nat) (disk : Nat) (sector : Int) (w : World) (h : Vol w vb A O) (ht : w.cell? ⟨tb, 0, none⟩ = some (.pointer (some ⟨vb, 0, none⟩))) (hd : disk < A.stand.length) (hl : A.wait.length ≤ 100000) :
    Calls Tryz.prog 163 #[.pointer (some ⟨tb, 0, none⟩), .agg #[.int .i64 (disk : Int), .int .i64 sector]] w fun e w' => e = .returned (.tuple #[]) ∧ Step w O w' vb (gaveA A 1 disk sector (.slice none 0 0)) := by
  have htl := block_lt_of_cell ht
  have HV := hide h
  clear h
  go_enter Tryz.func163, Tryz.ntmps163
  go_wp2_with fail
  have hbw := (Below.refl w.heap.size w).alloc (Nat.le_refl _) (.cells #[.int .i64 (disk : Int), .int .i64 sector] 147)
  have hbk := Blk.new w #[.int .i64 (disk : Int), .int .i64 sector] 147
  generalize w.alloc (.cells #[.int .i64 (disk : Int), .int .i64 sector] 147) = w1 at *
  refine region_tail 8 (by kernel_rfl) (by kernel_rfl) ?_
  rintro w2 hw2
  have HB2 : Hid (Below w.heap.size w w2) := by rw [hw2]; exact hbw.drew
  have D0 : w2.cell? ⟨tb, 0, none⟩ = some (.pointer (some ⟨vb, 0, none⟩)) := by rw [(unhide HB2).cell (by exact htl)]; exact ht
  have D1 : w2.cell? ⟨w.heap.size, 0, none⟩ = some (.int .i64 (disk : Int)) := by rw [hw2]; exact hbk.cell 0
  have D2 : w2.cell? ⟨w.heap.size, 1, none⟩ = some (.int .i64 sector) := by rw [hw2]; exact hbk.cell 1
  clear hw2 hbw hbk ht
  simp only [List.take_succ_cons, List.take_zero, List.drop_succ_cons, List.drop_zero]
  repeat (refine wpStill_step (fun K hK => ?_); go_simp; (try go_ints); refine hK _ ?_; clear hK K)
  refine wpStill_nil ?_
  go_wp2_with fail
  refine (give_any vb A O 1 disk sector (.slice none 0 0) w2 ((unhide HV).new (unhide HB2)) hd hl ⟨none, 0, 0, rfl⟩ (data_nil _ _ _ _ _) (by simp [dBlk])).mono ?_
  rintro e w3 ⟨rfl, hst⟩
  have HST := hide (Step.new (unhide HB2) (Step.of_nil hst))
  clear hst D0 D1 D2
  go_wp2
  refine bodyPost_end (results_none rfl _ _ _) rfl ⟨rfl, unhide HST⟩

/-- barriers for these disks -/
def safeA (A : VA) (L : List Nat) : VA := L.foldl (fun A d => gaveA A 3 d 0 (.slice none 0 0)) A
theorem safeA_snoc (A : VA) (L : List Nat) (d : Nat) : safeA A (L ++ [d]) = gaveA (safeA A L) 3 d 0 (.slice none 0 0) := by unfold safeA; rw [List.foldl_append]; rfl
theorem safeA_facts (A : VA) (L : List Nat) : (safeA A L).stand = A.stand ∧ (safeA A L).wait.length ≤ A.wait.length + L.length := by
  unfold safeA
  induction L generalizing A with
  | nil => exact ⟨rfl, Nat.le_refl _⟩
  | cons d r ih =>
    obtain ⟨h1, h2⟩ := ih (gaveA A 3 d 0 (.slice none 0 0))
    have h3 := gaveA_wait A 3 d 0 (.slice none 0 0)
    refine ⟨h1.trans (gaveA_stand _ _ _ _ _), ?_⟩
    simp only [List.length_cons, List.foldl_cons] at *
    omega
/-- a list of disks -/
def DiskL (w : World) (v : Value) (L : List Nat) (lb : Option Nat) : Prop := ∃ (la : Option Addr) (c : Nat), v = .slice la L.length c ∧ ∀ (i d : Nat), L[i]? = some d → ∃ b, lb = some b ∧ la = some ⟨b, 0, none⟩ ∧ w.cell? ⟨b, i, none⟩ = some (.int .i64 (d : Int))
theorem diskL_own {w : World} {base : Nat} {v : Value} {L : List Nat} (h : w.ownsRow base 3 1 v L.length (ints L)) : ∃ lb, DiskL w v L lb ∧ ∀ b, lb = some b → base ≤ b := by
  have h' := h
  rcases h.2 with ⟨rfl, h0⟩ | ⟨g, cap, cur, rfl, hg, hh, _⟩
  · exact ⟨none, ⟨none, 0, by rw [h0], fun i d hi => by rw [List.length_eq_zero_iff.1 h0] at hi; simp at hi⟩, fun b hb => by cases hb⟩
  · refine ⟨some g, ⟨_, cap, rfl, fun i d hi => ⟨g, rfl, rfl, ?_⟩⟩, fun b hb => by cases hb; exact hg⟩
    have hi' : i < L.length := (List.getElem?_eq_some_iff.1 hi).1
    rw [h'.cellAt i (by omega)]
    unfold ints
    rw [List.getElem?_map, hi]
    rfl

set_option maxRecDepth 100000 in
set_option maxHeartbeats 1000000 in
theorem makeSafe_any (tb vb : Nat) (A : VA) (O : List Nat) (v : Value) (L : List Nat) (lb : Option Nat) (w : World) (h : Vol w vb A O) (ht : w.cell? ⟨tb, 0, none⟩ = some (.pointer (some ⟨vb, 0, none⟩))) (hto : tb ∉ O) (hv : DiskL w v L lb) (hlb : ∀ b, lb = some b → b ∉ O) (hL : ∀ d ∈ L, d < A.stand.length) (hl : A.wait.length + L.length ≤ 100000) :
    Calls Tryz.prog 167 #[.pointer (some ⟨tb, 0, none⟩), v] w fun e w' => e = .returned (.tuple #[]) ∧ Step w O w' vb (safeA A L) := by
  obtain ⟨la, c, rfl, hv⟩ := hv
  have htl := block_lt_of_cell ht
  have HV := hide hv
  have HL := hide hL
  have HVol := hide h
  have HT := hide ht
  have HLB := hide hlb
  clear hv hL h ht hlb
  go_enter Tryz.func167, Tryz.ntmps167
  go_wp2
  go_loopw [8] (fun iv wr => ∃ (k : Nat) (Ok : List Nat), k ≤ L.length ∧ iv = .int .i64 (k : Int) ∧ Vol wr vb (safeA A (L.take k)) Ok ∧ Chg (fun b => b ∈ O) w wr ∧ ∀ b ∈ Ok, b ∈ O ∨ w.heap.size ≤ b) (fun i _ => L.length - (intOf i).toNat)
  case atStart => exact ⟨0, O, Nat.zero_le _, rfl, by simpa [safeA] using unhide HVol, Chg.refl _ _, fun b hb => Or.inl hb⟩
  case round =>
    obtain ⟨k, Ok, hk, rfl, hvk, hck, hok⟩ := hrel
    rcases Nat.lt_or_ge k L.length with hlt | hge
    · obtain ⟨d, hd⟩ : ∃ d, L[k]? = some d := ⟨L[k], List.getElem?_eq_getElem hlt⟩
      obtain ⟨b, hb, rfl, hcell⟩ := unhide HV k d hd
      have hdl := unhide HL d (List.mem_of_getElem? hd)
      have hbo := unhide HLB b hb
      clear hb
      have c0 : wr.cell? ⟨b, k, none⟩ = some (.int .i64 (d : Int)) := by
        rw [World.cell?_of_block (w := w) (hck.block b (block_lt_of_cell hcell) hbo)]
        exact hcell
      have c1 : wr.cell? ⟨tb, 0, none⟩ = some (.pointer (some ⟨vb, 0, none⟩)) := by
        rw [World.cell?_of_block (w := w) (hck.block tb htl hto)]
        exact unhide HT
      have hsn : safeA A (L.take (k + 1)) = gaveA (safeA A (L.take k)) 3 d 0 (.slice none 0 0) := by
        rw [List.take_succ_eq_append_getElem hlt, safeA_snoc]
        congr 1
        rw [List.getElem?_eq_getElem hlt] at hd
        exact Option.some.inj hd
      obtain ⟨f1, f2⟩ := safeA_facts A (L.take k)
      rw [List.length_take] at f2
      have HSN := hide hsn
      have HVK := hide hvk
      have HCK := hide hck
      have HOK := hide hok
      have hk0 : (0 : Int) ≤ (k : Int) := by omega
      have hk1 : (k : Int) < (L.length : Int) := by omega
      have hdl' : d < (safeA A (L.take k)).stand.length := by rw [f1]; exact hdl
      have hwl : (safeA A (L.take k)).wait.length ≤ 100000 := by omega
      have HG := hide (give_any vb (safeA A (L.take k)) Ok 3 d 0 (.slice none 0 0) wr hvk hdl' hwl ⟨none, 0, 0, rfl⟩ (data_nil _ _ _ _ _) (by simp [dBlk]))
      clear hsn hvk hck hok hd hcell f1 f2 hdl' hwl
      go_wp2_with fail
      refine (unhide HG).mono ?_
      rintro e w1 ⟨rfl, hst⟩
      obtain ⟨O1, v1, ch1, o1⟩ := Step.trans (unhide HCK) (unhide HOK) (Step.of_nil hst)
      have HV1 : Hid (Vol w1 vb (safeA A (L.take (k + 1))) O1) := by rw [unhide HSN]; exact v1
      have HC1 := hide ch1
      have HO1 := hide o1
      clear hst v1 ch1 o1 c0 c1 HG
      go_wp2
      go_roundw
      case rel => exact ⟨k + 1, O1, by omega, by go_num, unhide HV1, unhide HC1, unhide HO1⟩
      case measure => simp [intOf]; omega
    · obtain rfl : k = L.length := by omega
      rw [List.take_length] at hvk
      have HVK := hide hvk
      have HCK := hide hck
      have HOK := hide hok
      clear hvk hck hok
      go_wp2
      refine bodyPost_end (results_none rfl _ _ _) rfl ⟨rfl, Ok, unhide HVK, unhide HCK, unhide HOK⟩

end Go.Proofs.YtdcinlkkjbclmaaGreat
