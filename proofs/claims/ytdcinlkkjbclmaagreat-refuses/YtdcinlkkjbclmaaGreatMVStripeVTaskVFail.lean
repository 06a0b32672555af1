/- Where columns lie; a stripe's columns are read. -/
import Derived.Test.YtdcinlkkjbclmaaGreatMVWriteVLabels
import Derived.Laws.EntriesVeiled
namespace Go.Proofs.YtdcinlkkjbclmaaGreat
open Go.RowKit

def dskAt (d s c : Int) : Int := (d - 1 - s % d + 2 + c) % d
set_option maxHeartbeats 400000 in
theorem diskOfP_any (d s : Int) (w : World) (h1 : 4 ≤ d) (h2 : d ≤ 8) (h3 : 0 ≤ s) (h4 : s ≤ 5) :
    Calls Tryz.prog 141 #[.int .i64 d, .int .i64 s] w fun e w' => e = .returned (.int .i64 (d - 1 - s % d)) ∧ w' = w := by
  have h5 : 0 ≤ s % d := Int.emod_nonneg _ (by omega)
  have h6 : s % d < d := Int.emod_lt_of_pos _ (by omega)
  go_enter Tryz.func141, Tryz.ntmps141
  go_wp2
  go_ret
  exact ⟨rfl, rfl⟩

set_option maxHeartbeats 400000 in
theorem disk_any (d s c : Int) (w : World) (h1 : 4 ≤ d) (h2 : d ≤ 8) (h3 : 0 ≤ s) (h4 : s ≤ 5) (h5 : 0 ≤ c) (h6 : c ≤ 8) :
    Calls Tryz.prog 139 #[.int .i64 d, .int .i64 s, .int .i64 c] w fun e w' => e = .returned (.int .i64 (dskAt d s c)) ∧ w' = w := by
  have h7 : 0 ≤ s % d := Int.emod_nonneg _ (by omega)
  have h8 : s % d < d := Int.emod_lt_of_pos _ (by omega)
  unfold dskAt
  go_enter Tryz.func139, Tryz.ntmps139
  go_wp2_with (go_at_call 141; refine (diskOfP_any _ _ _ h1 h2 h3 h4).mono ?_; rintro e w' ⟨rfl, rfl⟩)
  go_ret
  exact ⟨rfl, rfl⟩

set_option maxHeartbeats 400000 in
theorem sector_any (s : Int) (w : World) (h3 : 0 ≤ s) (h4 : s ≤ 5) :
    Calls Tryz.prog 140 #[.int .i64 s] w fun e w' => e = .returned (.int .i64 (17 + 2 * s)) ∧ w' = w := by
  go_enter Tryz.func140, Tryz.ntmps140
  go_wp2
  go_ret
  exact ⟨rfl, rfl⟩

set_option maxHeartbeats 400000 in
theorem block_any (d b : Int) (w : World) (h1 : 4 ≤ d) (h2 : d ≤ 8) (h3 : 0 ≤ b) (h4 : b ≤ 6 * (d - 2) - 1) :
    Calls Tryz.prog 137 #[.int .i64 d, .int .i64 b] w fun e w' => e = .returned (.agg #[.int .i64 (b / (d - 2)), .int .i64 (b % (d - 2)), .int .i64 (dskAt d (b / (d - 2)) (b % (d - 2))), .int .i64 (17 + 2 * (b / (d - 2)))]) ∧ Below w.heap.size w w' := by
  have q1 : 0 ≤ b / (d - 2) := Int.ediv_nonneg h3 (by omega)
  have q2 : b / (d - 2) ≤ 5 := by
    have : b / (d - 2) < 6 := Int.ediv_lt_of_lt_mul (by omega) (by omega)
    omega
  have q3 : 0 ≤ b % (d - 2) := Int.emod_nonneg _ (by omega)
  have q4 : b % (d - 2) < d - 2 := Int.emod_lt_of_pos _ (by omega)
  go_enter Tryz.func137, Tryz.ntmps137
  go_wp2_with fail
  go_quiet (fail)
  go_wp2_with (first | (go_at_call 139; refine (disk_any _ _ _ _ h1 h2 q1 q2 q3 (by omega)).mono ?_; rintro e w' ⟨rfl, rfl⟩) | (go_at_call 140; refine (sector_any _ _ q1 q2).mono ?_; rintro e w' ⟨rfl, rfl⟩))
  refine bodyPost_ret (v := .agg #[.int .i64 (b / (d - 2)), .int .i64 (b % (d - 2)), .int .i64 (dskAt d (b / (d - 2)) (b % (d - 2))), .int .i64 (17 + 2 * (b / (d - 2)))]) (by simp [results, Tryz.results137, go_sem]) rfl ⟨rfl, ?_⟩
  exact ((((below_drewN ((Below.refl _ _).alloc (Nat.le_refl _) _) nq).setCell (by simp) _).setCell (by simp) _).setCell (by simp) _).setCell (by simp) _


theorem results_two {P : Program} {fn : Func} {p p' : Tmp} {ty : TypeId} (h : fn.results = #[.cell p ty, .cell p' ty]) (tmps : Array Value) (w : World) (g g' : Nat) (t t' : TypeId) (cs cs' : Array Value) (fr fr' : Nat × Nat) (d : TypeDesc)
    (hp : tmps.getD p undef = .pointer (some ⟨g, 0, none⟩)) (hp' : tmps.getD p' undef = .pointer (some ⟨g', 0, none⟩)) (hg : w.heap[g]? = some (.cells cs t fr)) (hg' : w.heap[g']? = some (.cells cs' t' fr'))
    (hu : P.underlying ty = some d) (hd : (match d with | .struct _ | .array _ _ => true | _ => false) = true) (hi : (P.info? ty).map (·.size) = some cs.size) (hi' : (P.info? ty).map (·.size) = some cs'.size) :
    (results fn tmps).run P w = .ok (.tuple #[.agg cs, .agg cs']) w := by
  have h1 : tmps[p]?.getD undef = .pointer (some ⟨g, 0, none⟩) := by simpa using hp
  have h2 : tmps[p']?.getD undef = .pointer (some ⟨g', 0, none⟩) := by simpa using hp'
  simp [results, h, h1, h2, asAddr, run_loadVar_row w g t ty cs fr d hg hu hd hi, run_loadVar_row w g' t' ty cs' fr' d hg' hu hd hi']

set_option maxRecDepth 100000 in
set_option maxHeartbeats 1000000 in
theorem halves_any (s d : Int) (w : World) (h3 : 0 ≤ s) (h4 : s ≤ 5) :
    Calls Tryz.prog 189 #[.int .i64 s, .int .i64 d] w fun e w' => e = .returned (.tuple #[.agg #[.int .i64 d, .int .i64 (17 + 2 * s)], .agg #[.int .i64 d, .int .i64 (17 + 2 * s + 1)]]) ∧ Below w.heap.size w w' := by
  go_enter Tryz.func189, Tryz.ntmps189
  go_wp2_with (go_at_call 140; refine (sector_any _ _ h3 h4).mono ?_; rintro e w' ⟨rfl, rfl⟩)
  have k1 := (Blk.new w #[.int .i64 d, .int .i64 (17 + 2 * s)] 147).alloc (.cells #[.int .i64 d, .int .i64 (17 + 2 * s + 1)] 147)
  have k2 := Blk.new (w.alloc (.cells #[.int .i64 d, .int .i64 (17 + 2 * s)] 147)) #[.int .i64 d, .int .i64 (17 + 2 * s + 1)] 147
  rw [World.size_alloc] at k2
  refine bodyPost_ret (results_two Tryz.results189 _ _ w.heap.size (w.heap.size + 1) _ _ _ _ _ _ _ rfl rfl k1 k2 Tryz.underlying147 rfl (by kernel_rfl) (by kernel_rfl)) rfl ⟨rfl, ?_⟩
  exact ((Below.refl _ _).alloc (Nat.le_refl _) _).alloc (by simp) _

/-- a disk's column is read -/
def colRead (A : VA) (s : Int) (d : Nat) : VA := gaveA (gaveA A 1 d (17 + 2 * s) (.slice none 0 0)) 1 d (17 + 2 * s + 1) (.slice none 0 0)
theorem colRead_facts (A : VA) (s : Int) (d : Nat) : (colRead A s d).stand = A.stand ∧ (colRead A s d).wait.length ≤ A.wait.length + 2 := by
  unfold colRead
  refine ⟨(gaveA_stand _ _ _ _ _).trans (gaveA_stand _ _ _ _ _), ?_⟩
  have h1 := gaveA_wait (gaveA A 1 d (17 + 2 * s) (.slice none 0 0)) 1 d (17 + 2 * s + 1) (.slice none 0 0)
  have h2 := gaveA_wait A 1 d (17 + 2 * s) (.slice none 0 0)
  omega

set_option maxRecDepth 100000 in
set_option maxHeartbeats 1000000 in
theorem readColumn_any (tb vb : Nat) (A : VA) (O : List Nat) (s : Int) (d : Nat) (w : World) (h : Vol w vb A O) (ht : w.cell? ⟨tb, 0, none⟩ = some (.pointer (some ⟨vb, 0, none⟩))) (hto : tb ∉ O) (hd : d < A.stand.length) (hl : A.wait.length ≤ 90000) (h3 : 0 ≤ s) (h4 : s ≤ 5) :
    Calls Tryz.prog 197 #[.pointer (some ⟨tb, 0, none⟩), .int .i64 s, .int .i64 (d : Int)] w fun e w' => e = .returned (.tuple #[]) ∧ Step w O w' vb (colRead A s d) := by
  have htl := block_lt_of_cell ht
  have hlt := h.lt
  have HV := hide h
  have HLT := hide hlt
  clear h hlt
  go_enter Tryz.func197, Tryz.ntmps197
  go_wp2_with fail
  refine (halves_any s d w h3 h4).mono ?_
  rintro e w1 ⟨rfl, hb1⟩
  have k1 := (Blk.new w1 #[.int .i64 (d : Int), .int .i64 (17 + 2 * s)] 147).alloc (.cells #[.int .i64 (d : Int), .int .i64 (17 + 2 * s + 1)] 147)
  have k2 := Blk.new (w1.alloc (.cells #[.int .i64 (d : Int), .int .i64 (17 + 2 * s)] 147)) #[.int .i64 (d : Int), .int .i64 (17 + 2 * s + 1)] 147
  rw [World.size_alloc] at k2
  have hs1 := hb1.size
  have hb2 : Below w.heap.size w ((w1.alloc (.cells #[.int .i64 (d : Int), .int .i64 (17 + 2 * s)] 147)).alloc (.cells #[.int .i64 (d : Int), .int .i64 (17 + 2 * s + 1)] 147)) := (hb1.alloc hs1 _).alloc (by simp; omega) _
  have HB2 := hide hb2
  have HK2 := hide k2
  have hsz : ((w1.alloc (.cells #[.int .i64 (d : Int), .int .i64 (17 + 2 * s)] 147)).alloc (.cells #[.int .i64 (d : Int), .int .i64 (17 + 2 * s + 1)] 147)).heap.size = w1.heap.size + 1 + 1 := by simp
  have HSZ := hide hsz
  clear hb1 hb2 k1 k2 hsz
  go_wp2_with fail
  generalize (w1.alloc (.cells #[.int .i64 (d : Int), .int .i64 (17 + 2 * s)] 147)).alloc (.cells #[.int .i64 (d : Int), .int .i64 (17 + 2 * s + 1)] 147) = w2 at *
  have hsz := unhide HSZ
  refine (read_any tb vb A O d (17 + 2 * s) w2 ((unhide HV).new (unhide HB2)) (((unhide HB2).cell (by exact htl)).trans ht) hd (by omega)).mono ?_
  rintro e w3 ⟨rfl, O1, v1, c1, o1⟩
  have hs3 := c1.size
  have hwo : w1.heap.size + 1 ∉ O := fun ho => by have := unhide HLT _ ho; omega
  have k3 := (unhide HK2).chg c1 hwo
  have b0 : w3.cell? ⟨w1.heap.size + 1, 0, none⟩ = some (.int .i64 (d : Int)) := k3.cell 0
  have b1 : w3.cell? ⟨w1.heap.size + 1, 1, none⟩ = some (.int .i64 (17 + 2 * s + 1)) := k3.cell 1
  have t3 : w3.cell? ⟨tb, 0, none⟩ = some (.pointer (some ⟨vb, 0, none⟩)) := by
    rw [World.cell?_of_block (w := w2) (c1.block tb (by omega) hto), (unhide HB2).cell (by exact htl)]
    exact ht
  have f1 := gaveA_stand A 1 d (17 + 2 * s) (.slice none 0 0)
  have f2 := gaveA_wait A 1 d (17 + 2 * s) (.slice none 0 0)
  have HR := hide (read_any tb vb _ O1 d (17 + 2 * s + 1) w3 v1 t3 (by rw [f1]; exact hd) (by omega))
  have HC := hide c1
  have HO := hide o1
  clear k3 v1 c1 o1 f1 f2 t3 ht
  go_wp2_with fail
  refine (unhide HR).mono ?_
  rintro e w4 ⟨rfl, hst⟩
  have HST := hide (Step.new (unhide HB2) (Step.trans (unhide HC) (unhide HO) hst))
  clear hst HR b0 b1
  go_wp2
  refine bodyPost_end (results_none rfl _ _ _) rfl ⟨rfl, unhide HST⟩

/-- the columns of these disks are read -/
def stripeRead (A : VA) (s : Int) (L : List Nat) : VA := L.foldl (fun A d => colRead A s d) A
theorem stripeRead_snoc (A : VA) (s : Int) (L : List Nat) (d : Nat) : stripeRead A s (L ++ [d]) = colRead (stripeRead A s L) s d := by unfold stripeRead; rw [List.foldl_append]; rfl
theorem stripeRead_facts (A : VA) (s : Int) (L : List Nat) : (stripeRead A s L).stand = A.stand ∧ (stripeRead A s L).wait.length ≤ A.wait.length + 2 * L.length := by
  unfold stripeRead
  induction L generalizing A with
  | nil => exact ⟨rfl, Nat.le_refl _⟩
  | cons d r ih =>
    obtain ⟨h1, h2⟩ := ih (colRead A s d)
    obtain ⟨h3, h4⟩ := colRead_facts A s d
    refine ⟨h1.trans h3, ?_⟩
    simp only [List.length_cons, List.foldl_cons] at *
    omega

set_option maxRecDepth 100000 in
set_option maxHeartbeats 2000000 in
theorem readStripe_any (tb vb : Nat) (A : VA) (O : List Nat) (s : Int) (w : World) (h : Vol w vb A O) (ht : w.cell? ⟨tb, 0, none⟩ = some (.pointer (some ⟨vb, 0, none⟩))) (hto : tb ∉ O) (hs : A.stand.length ≤ 8) (hl : A.wait.length ≤ 80000) (h3 : 0 ≤ s) (h4 : s ≤ 5) :
    Calls Tryz.prog 195 #[.pointer (some ⟨tb, 0, none⟩), .int .i64 s] w fun e w' => e = .returned (.tuple #[]) ∧ Step w O w' vb (stripeRead A s (cur A.stand)) := by
  have htl := block_lt_of_cell ht
  have hlt := h.lt
  have hcl := curTo_len A.stand A.stand.length
  have HV := hide h
  have HLT := hide hlt
  have HT := hide ht
  clear h hlt
  go_enter Tryz.func195, Tryz.ntmps195
  go_wp2_with fail
  refine (current_any vb A O w (unhide HV) hs).mono ?_
  rintro e w2 ⟨v, rfl, hov, hb2⟩
  obtain ⟨lb, ⟨la, c, rfl, hcell⟩, hlb⟩ := diskL_own hov
  have hs2 := hb2.size
  have HV2 := hide ((unhide HV).new hb2)
  have HT2 : Hid (w2.cell? ⟨tb, 0, none⟩ = some (.pointer (some ⟨vb, 0, none⟩))) := by rw [hb2.cell (by exact htl)]; exact ht
  have HBW := hide hb2
  have HCE := hide hcell
  have HLB := hide hlb
  have HCU' : Hid (∀ d ∈ cur A.stand, d < A.stand.length) := curTo_lt A.stand A.stand.length
  clear hov hb2 hcell hlb ht
  have hcc : (cur A.stand).length ≤ 8 := Nat.le_trans hcl hs
  clear hcl
  generalize hC : cur A.stand = C at *
  have HC := hide hC
  clear hC
  go_wp2
  go_loopw [12] (fun iv wr => ∃ (k : Nat) (Ok : List Nat), k ≤ C.length ∧ iv = .int .i64 (k : Int) ∧ Vol wr vb (stripeRead A s (C.take k)) Ok ∧ Chg (fun b => b ∈ O) w2 wr ∧ ∀ b ∈ Ok, b ∈ O ∨ w2.heap.size ≤ b) (fun i _ => C.length - (intOf i).toNat)
  case atStart => exact ⟨0, O, Nat.zero_le _, rfl, by simpa [stripeRead] using unhide HV2, Chg.refl _ _, fun b hb => Or.inl hb⟩
  case round =>
    obtain ⟨k, Ok, hk, rfl, hvk, hck, hok⟩ := hrel
    rcases Nat.lt_or_ge k C.length with hlt | hge
    · obtain ⟨d, hd⟩ : ∃ d, C[k]? = some d := ⟨C[k], List.getElem?_eq_getElem hlt⟩
      obtain ⟨b, hb, rfl, hcell⟩ := unhide HCE k d hd
      have hdl := unhide HCU' d (List.mem_of_getElem? hd)
      have hbb := unhide HLB b hb
      clear hb
      have hbo : b ∉ O := fun ho => by have := unhide HLT b ho; omega
      have c0 : wr.cell? ⟨b, k, none⟩ = some (.int .i64 (d : Int)) := by
        rw [World.cell?_of_block (w := w2) (hck.block b (block_lt_of_cell hcell) hbo)]
        exact hcell
      have c1 : wr.cell? ⟨tb, 0, none⟩ = some (.pointer (some ⟨vb, 0, none⟩)) := by
        rw [World.cell?_of_block (w := w2) (hck.block tb (by omega) hto)]
        exact unhide HT2
      have hsn : stripeRead A s (C.take (k + 1)) = colRead (stripeRead A s (C.take k)) s d := by
        rw [List.take_succ_eq_append_getElem hlt, stripeRead_snoc]
        congr 1
        rw [List.getElem?_eq_getElem hlt] at hd
        exact Option.some.inj hd
      obtain ⟨f1, f2⟩ := stripeRead_facts A s (C.take k)
      rw [List.length_take] at f2
      have htk : tb ∉ Ok := fun ho => by rcases hok tb ho with q | q; exact hto q; omega
      have HSN := hide hsn
      have HCK := hide hck
      have HOK := hide hok
      have hk0 : (0 : Int) ≤ (k : Int) := by omega
      have hk1 : (k : Int) < (C.length : Int) := by omega
      have HG := hide (readColumn_any tb vb (stripeRead A s (C.take k)) Ok s d wr hvk c1 htk (by rw [f1]; exact hdl) (by omega) h3 h4)
      clear hsn hvk hck hok hd hcell f1 f2 c1
      go_wp2_with fail
      refine (unhide HG).mono ?_
      rintro e w3 ⟨rfl, hst⟩
      obtain ⟨O1, v1, ch1, o1⟩ := Step.trans (unhide HCK) (unhide HOK) hst
      have HV1 : Hid (Vol w3 vb (stripeRead A s (C.take (k + 1))) O1) := by rw [unhide HSN]; exact v1
      have HC1 := hide ch1
      have HO1 := hide o1
      clear hst v1 ch1 o1 c0 HG
      go_wp2
      go_roundw
      case rel => exact ⟨k + 1, O1, by omega, by go_num, unhide HV1, unhide HC1, unhide HO1⟩
      case measure => simp [intOf]; omega
    · obtain rfl : k = C.length := by omega
      rw [List.take_length] at hvk
      have HST := hide (Step.new (unhide HBW) ⟨Ok, hvk, hck, hok⟩)
      clear hvk hck hok
      go_wp2
      refine bodyPost_end (results_none rfl _ _ _) rfl ⟨rfl, by rw [unhide HC]; exact unhide HST⟩

set_option maxHeartbeats 1000000 in
theorem blocks_any (vb : Nat) (A : VA) (O : List Nat) (w : World) (h : Vol w vb A O) (hs1 : 4 ≤ A.stand.length) (hs : A.stand.length ≤ 8) (hst : A.stripes ≤ 6) :
    Calls Tryz.prog 96 #[.pointer (some ⟨vb, 0, none⟩)] w fun e w' => e = .returned (.int .i64 ((A.stripes : Int) * ((A.stand.length : Int) - 2))) ∧ ∃ n, w' = w.drewN n := by
  obtain ⟨G, hG, _⟩ := id h
  have c1 : w.cell? ⟨vb, 1, none⟩ = some (.int .i64 (A.stripes : Int)) := hG.blk.cell 1
  have HD : Hid (∀ n, Calls Tryz.prog 106 #[.pointer (some ⟨vb, 0, none⟩)] (w.drewN n) fun e w' => e = .returned (.int .i64 (A.stand.length : Int)) ∧ w' = w.drewN n) := fun n => disks_any vb A O _ (h.chg (X := fun _ => False) ((Chg.refl _ _).drewN n) (fun _ _ => id))
  have h1 : (A.stand.length : Int) ≤ 8 := by omega
  have h2 : (4 : Int) ≤ (A.stand.length : Int) := by omega
  have h3 : (A.stripes : Int) ≤ 6 := by omega
  have h4 : (0 : Int) ≤ (A.stripes : Int) := by omega
  have h5 : (A.stripes : Int) * ((A.stand.length : Int) - 2) ≤ 36 := by
    have := Int.mul_le_mul h3 (show (A.stand.length : Int) - 2 ≤ 6 by omega) (by omega) (by omega)
    omega
  have h6 : 0 ≤ (A.stripes : Int) * ((A.stand.length : Int) - 2) := Int.mul_nonneg h4 (by omega)
  clear h hG
  go_enter Tryz.func96, Tryz.ntmps96
  go_wp2
  go_quiet ((go_at_call 106; exact Calls.quiet_of_same (unhide HD _)))
  go_wp2
  go_ret
  exact ⟨rfl, nq, rfl⟩

end Go.Proofs.YtdcinlkkjbclmaaGreat

/- What a volume is at: a task's own cells, goOn, miss. -/
namespace Go.Proofs.YtdcinlkkjbclmaaGreat
open Go.RowKit

theorem func_nil (fn : Fn) (a c : Array Value) (w : World) : (binOp .eql 1 (.func fn a c) .nilFunc).run Tryz.prog w = .ok (.bool false) w := by kernel_rfl
theorem nil_nil (w : World) : (binOp .eql 1 .nilFunc .nilFunc).run Tryz.prog w = .ok (.bool true) w := by kernel_rfl
set_option maxRecDepth 100000 in
set_option maxHeartbeats 1000000 in
theorem goOn_nil (tb : Nat) (w : World) (h2 : w.cell? ⟨tb, 2, none⟩ = some .nilFunc) :
    Calls Tryz.prog 158 #[.pointer (some ⟨tb, 0, none⟩)] w fun e w' => e = .returned (.bool false) ∧ w' = w := by
  have hn := nil_nil
  go_enter Tryz.func158, Tryz.ntmps158
  go_wp2
  go_ret
  exact ⟨rfl, rfl⟩
set_option maxRecDepth 100000 in
set_option maxHeartbeats 1000000 in
theorem goOn_next (tb f : Nat) (R : World → Prop) (w : World) (h2 : w.cell? ⟨tb, 2, none⟩ = some (.func (.func f) #[.pointer (some ⟨tb, 0, none⟩)] #[])) (hf2 : w.frozen? ⟨tb, 2, none⟩ = false)
    (hcf : ∀ (args : Array Value) (w : World), (callFunc f args).run Tryz.prog w = .ok (.enter f args) w)
    (hc : Calls Tryz.prog f #[.pointer (some ⟨tb, 0, none⟩)] (w.setCell ⟨tb, 2, none⟩ .nilFunc) fun e w' => e = .returned (.tuple #[]) ∧ R w') :
    Calls Tryz.prog 158 #[.pointer (some ⟨tb, 0, none⟩)] w fun e w' => e = .returned (.bool true) ∧ R w' := by
  have HC := hide hc
  have hn := func_nil (.func f) #[.pointer (some ⟨tb, 0, none⟩)] #[]
  clear hc
  go_enter Tryz.func158, Tryz.ntmps158
  go_wp2_with fail
  refine (unhide HC).mono ?_
  rintro e w1 ⟨rfl, hr⟩
  have HR := hide hr
  clear hr hcf
  go_wp2
  go_ret
  exact ⟨rfl, unhide HR⟩
theorem enters_makeLabelsSafe (args : Array Value) (w : World) : (callFunc 162 args).run Tryz.prog w = .ok (.enter 162 args) w := by kernel_rfl
theorem enters_ready (args : Array Value) (w : World) : (callFunc 168 args).run Tryz.prog w = .ok (.enter 168 args) w := by kernel_rfl
theorem miss_any (tb : Nat) (d : Int) (w : World) :
    Calls Tryz.prog 160 #[.pointer (some ⟨tb, 0, none⟩), .int .i64 d] w fun e w' => e = .returned (.tuple #[]) ∧ w' = w := by
  go_enter Tryz.func160, Tryz.ntmps160
  go_wp2
  refine bodyPost_end (results_none rfl _ _ _) rfl ⟨rfl, rfl⟩

/-- one cell of the volume is set -/
theorem vol_set {w : World} {vb : Nat} {A A' : VA} {O : List Nat} (h : Vol w vb A O) (i : Nat) (v : Value) (hA : ∀ G, volC A' G = (volC A G).setIfInBounds i v) (hs : A'.stand = A.stand) (hw : A'.wait = A.wait) (ht : A'.told = A.told) (hr : A'.reqs = A.reqs) (hq : A'.ress = A.ress) :
    Step w O (w.setCell ⟨vb, i, none⟩ v) vb A' := by
  obtain ⟨G, h, rfl, hnd, hdi⟩ := h
  have hap := apart_of h.nd
  have hch : Chg (fun b => b = vb) w (w.setCell ⟨vb, i, none⟩ v) := (Chg.refl _ _).setCell _ _ (Or.inl rfl)
  refine Vol.lift_sub hnd hdi ⟨G, ⟨by rw [hA]; exact h.blk.set i v, by rw [hs]; exact h.std.chg hch hap.sv, by rw [ht]; exact h.map.chg hch hap.mv, by rw [hw]; exact ring_chg h.wq hch (fun hn => (hap.w1 hn).1), by rw [hr]; exact ring_chg h.rq hch (fun hn => (hap.r1 hn).1), by rw [hq]; exact ring_chg h.sq hch (fun hn => (hap.s1 hn).1), h.nd, h.few⟩, hch.mono (fun k _ hk => by rw [hk]; exact own_mem.2 (Or.inl rfl)), fun b hb => Or.inl hb⟩ (by rw [hw]; exact List.Sublist.refl _)

set_option maxRecDepth 100000 in
set_option maxHeartbeats 1000000 in
theorem ready_any (tb vb : Nat) (A : VA) (O : List Nat) (w : World) (h : Vol w vb A O) (ht : w.cell? ⟨tb, 0, none⟩ = some (.pointer (some ⟨vb, 0, none⟩))) :
    Calls Tryz.prog 168 #[.pointer (some ⟨tb, 0, none⟩)] w fun e w' => e = .returned (.tuple #[]) ∧ Step w O w' vb { A with state := 1 } := by
  obtain ⟨G, hG, _⟩ := id h
  have c2 : w.cell? ⟨vb, 2, none⟩ = some (.int .i64 A.state) := hG.blk.cell 2
  have f2 := hG.blk.free 2
  have HST := hide (vol_set (A' := { A with state := 1 }) h 2 (.int .i64 1) (fun G => by unfold volC; simp) rfl rfl rfl rfl rfl)
  clear h hG
  go_enter Tryz.func168, Tryz.ntmps168
  go_wp2
  refine bodyPost_end (results_none rfl _ _ _) rfl ⟨rfl, unhide HST⟩

set_option maxRecDepth 100000 in
set_option maxHeartbeats 2000000 in
theorem makeLabelsSafe_any (tb vb : Nat) (A : VA) (O : List Nat) (x : Value) (w : World) (h : Vol w vb A O) (hto : tb ∉ O) (ht : w.cell? ⟨tb, 0, none⟩ = some (.pointer (some ⟨vb, 0, none⟩))) (h2 : w.cell? ⟨tb, 2, none⟩ = some x) (hf2 : w.frozen? ⟨tb, 2, none⟩ = false) (hs : A.stand.length ≤ 8) (hl : A.wait.length ≤ 90000) :
    Calls Tryz.prog 162 #[.pointer (some ⟨tb, 0, none⟩)] w fun e w' => e = .returned (.tuple #[]) ∧ ∃ w1, Step w O w1 vb (safeA A (cur A.stand)) ∧ w' = w1.setCell ⟨tb, 2, none⟩ (.func (.func 168) #[.pointer (some ⟨tb, 0, none⟩)] #[]) := by
  have htl := block_lt_of_cell ht
  have hlt := h.lt
  have hcl := Nat.le_trans (curTo_len A.stand A.stand.length) hs
  have HV := hide h
  have HLT := hide hlt
  have HCU : Hid (∀ d ∈ cur A.stand, d < A.stand.length) := curTo_lt A.stand A.stand.length
  have HM : Hid (∀ w' v, Below w.heap.size w w' → w'.ownsRow w.heap.size 3 1 v (cur A.stand).length (ints (cur A.stand)) → Calls Tryz.prog 167 #[.pointer (some ⟨tb, 0, none⟩), v] w' fun e w'' => e = .returned (.tuple #[]) ∧ Step w' O w'' vb (safeA A (cur A.stand))) := fun w' v hw hov => by
    obtain ⟨lb, hdl, hlb⟩ := diskL_own hov
    exact makeSafe_any tb vb A O v (cur A.stand) lb w' (h.new hw) ((hw.cell (by exact htl)).trans ht) hto hdl (fun b hb ho => by have := hlb b hb; have := hlt b ho; omega) (unhide HCU) (by have : (cur A.stand).length ≤ 8 := hcl; omega)
  clear h hlt
  go_enter Tryz.func162, Tryz.ntmps162
  go_wp2_with fail
  go_region_held3 (fun w' => w'.cell? ⟨tb, 0, none⟩ = some (.pointer (some ⟨vb, 0, none⟩))) (first | exact ht | exact q0 | exact p0)
    (first | (go_at_call 123; refine (current_any vb A O _ ((unhide HV).new (Below.refl _ _).drew) hs).mono ?_; rintro e w3 ⟨v, rfl, hov, hb3⟩; have hB3 : Below w.heap.size w w3 := (Below.refl w.heap.size w).drew.trans hb3; have q0 := (hB3.cell (p := ⟨tb, 0, none⟩) (by exact htl)).trans ht; have HOV := hide hov; clear hov hb3) |
      (go_at_call 167; refine (unhide HM _ v hB3 (unhide HOV)).mono ?_; rintro e w4 ⟨rfl, hst⟩; have hch := hst.chg'; have p0 := (World.cell?_of_block (w := w3) (a := ⟨tb, 0, none⟩) (hch.block tb (by have := hB3.size; omega) hto)).trans q0; have p2 : w4.cell? ⟨tb, 2, none⟩ = some x := (World.cell?_of_block (w := w3) (a := ⟨tb, 2, none⟩) (hch.block tb (by have := hB3.size; omega) hto)).trans ((hB3.cell (p := ⟨tb, 2, none⟩) (by exact htl)).trans h2); have pf : w4.frozen? ⟨tb, 2, none⟩ = false := (World.frozen?_of_block (w := w3) (a := ⟨tb, 2, none⟩) (hch.block tb (by have := hB3.size; omega) hto)).trans ((hB3.frozen (p := ⟨tb, 2, none⟩) (by exact htl)).trans hf2); have HST := hide (Step.new hB3 hst); clear hst hch))
  clear ht h2 hf2 q0 p0
  go_wp2
  refine bodyPost_end (results_none rfl _ _ _) rfl ⟨rfl, w4, unhide HST, rfl⟩

end Go.Proofs.YtdcinlkkjbclmaaGreat

/- Results come about; too many disks are lost. -/
namespace Go.Proofs.YtdcinlkkjbclmaaGreat
open Go.RowKit

set_option maxRecDepth 100000 in
set_option maxHeartbeats 2000000 in
theorem finish_any (vb : Nat) (A : VA) (O : List Nat) (n e v c : Int) (data : Value) (xr : List Value) (r : List (List Value)) (w : World) (h : Vol w vb A O) (hw : A.reqs = (.int .i64 n :: xr) :: r) (hs : IsSl data) (hl : A.ress.length ≤ 90000) (rid : Int) :
    Calls Tryz.prog 124 #[.pointer (some ⟨vb, 0, none⟩), .agg #[.int .i64 rid, .int .i64 e, data, .int .i64 v, .int .i64 c]] w fun e' w' => e' = .returned (.tuple #[]) ∧ Step w O w' vb { A with reqs := r, ress := A.ress ++ [[.int .i64 n, .int .i64 e, data, .int .i64 v, .int .i64 c]] } := by
  obtain ⟨da, dn, dc, rfl⟩ := hs
  have hlt := h.lt
  have HV := hide h
  have HLT := hide hlt
  obtain ⟨G, hG, _⟩ := id h
  have hea := hG.rq.each (.int .i64 n :: xr) (by rw [hw]; simp)
  have HEA := hide hea
  clear h hlt hG hea
  have hb1 := (Below.refl w.heap.size w).alloc (Nat.le_refl _) (.cells #[.int .i64 rid, .int .i64 e, .slice da dn dc, .int .i64 v, .int .i64 c] 103)
  have HB1 := hide hb1
  have HK1 := hide (Blk.new w #[.int .i64 rid, .int .i64 e, .slice da dn dc, .int .i64 v, .int .i64 c] 103)
  have hs1 : (w.alloc (.cells #[.int .i64 rid, .int .i64 e, .slice da dn dc, .int .i64 v, .int .i64 c] 103)).heap.size = w.heap.size + 1 := by simp
  have HS1 := hide hs1
  clear hb1 hs1
  go_enter Tryz.func124, Tryz.ntmps124
  go_wp2_with fail
  generalize w.alloc (.cells #[.int .i64 rid, .int .i64 e, .slice da dn dc, .int .i64 v, .int .i64 c] 103) = w1 at *
  have hs1 := unhide HS1
  refine (req_take vb A O (.int .i64 n :: xr) r w1 ((unhide HV).new (unhide HB1)) hw).mono ?_
  rintro e' w2 ⟨rfl, O2, v2, c2, o2⟩
  have hs2 := c2.size
  have hwo : w.heap.size ∉ O := fun ho => by have := unhide HLT _ ho; omega
  have HK2 := hide ((unhide HK1).chg c2 hwo)
  have HV2 := hide v2
  have HC2 := hide c2
  have HO2 := hide o2
  clear v2 c2 o2 HK1
  have hx19 := (unhide HEA).1
  have hxo := all_oneCell_toArray (unhide HEA).2
  have HX0 : Hid ((.int .i64 n :: xr : List Value)[0]? = some (.int .i64 n)) := rfl
  clear HEA hw
  generalize (.int .i64 n :: xr : List Value) = x at *
  have hszx : (Tryz.prog.info? 142).map (·.size) = some x.toArray.size := by rw [List.size_toArray, hx19]; exact elInfoR
  have HSX := hide hszx
  have HOX := hide hxo
  have HN2 := hide (Blk.new w2 #[Value.int .i64 0, Value.int .i64 0, Value.int .i64 0, Value.int .u8 0, Value.int .u8 0, Value.int .u8 0, Value.int .u8 0, Value.int .u8 0, Value.int .u8 0, Value.int .u8 0, Value.int .u8 0, Value.int .u8 0, Value.int .u8 0, Value.int .u8 0, Value.int .u8 0, Value.int .u8 0, Value.int .u8 0, Value.int .u8 0, Value.int .u8 0] 142)
  have HT2 : Hid ((w2.alloc (.cells #[Value.int .i64 0, Value.int .i64 0, Value.int .i64 0, Value.int .u8 0, Value.int .u8 0, Value.int .u8 0, Value.int .u8 0, Value.int .u8 0, Value.int .u8 0, Value.int .u8 0, Value.int .u8 0, Value.int .u8 0, Value.int .u8 0, Value.int .u8 0, Value.int .u8 0, Value.int .u8 0, Value.int .u8 0, Value.int .u8 0, Value.int .u8 0] 142)).there w2.heap.size 0 x.toArray.size) := by rw [show x.toArray.size = 19 from hx19]; exact (unhide HN2).there 0 19 (by simp)
  have HL3 : Hid (Blk ((w2.alloc (.cells #[Value.int .i64 0, Value.int .i64 0, Value.int .i64 0, Value.int .u8 0, Value.int .u8 0, Value.int .u8 0, Value.int .u8 0, Value.int .u8 0, Value.int .u8 0, Value.int .u8 0, Value.int .u8 0, Value.int .u8 0, Value.int .u8 0, Value.int .u8 0, Value.int .u8 0, Value.int .u8 0, Value.int .u8 0, Value.int .u8 0, Value.int .u8 0] 142)).setCells w2.heap.size 0 x) w2.heap.size x.toArray 142) := (unhide HN2).whole x (by rw [hx19]; rfl)
  have HB3 : Hid (Below w2.heap.size w2 ((w2.alloc (.cells #[Value.int .i64 0, Value.int .i64 0, Value.int .i64 0, Value.int .u8 0, Value.int .u8 0, Value.int .u8 0, Value.int .u8 0, Value.int .u8 0, Value.int .u8 0, Value.int .u8 0, Value.int .u8 0, Value.int .u8 0, Value.int .u8 0, Value.int .u8 0, Value.int .u8 0, Value.int .u8 0, Value.int .u8 0, Value.int .u8 0, Value.int .u8 0] 142)).setCells w2.heap.size 0 x)) := below_setCells ((Below.refl _ _).alloc (Nat.le_refl _) _) _ _ _ (Nat.le_refl _)
  clear hszx hxo HN2
  go_wp2_with (show wpList _ _ _ (Oper.mk none (Op.store 142 (Operand.tmp 4) _) _ _ _ _ :: _) _ _; refine wpList_store_mid rfl 142 _ _ rfl w2.heap.size 0 x.toArray rfl rfl (unhide HT2) (unhide HSX) (unhide HOX) ?_; generalize (w2.alloc (.cells #[Value.int .i64 0, Value.int .i64 0, Value.int .i64 0, Value.int .u8 0, Value.int .u8 0, Value.int .u8 0, Value.int .u8 0, Value.int .u8 0, Value.int .u8 0, Value.int .u8 0, Value.int .u8 0, Value.int .u8 0, Value.int .u8 0, Value.int .u8 0, Value.int .u8 0, Value.int .u8 0, Value.int .u8 0, Value.int .u8 0, Value.int .u8 0] 142)).setCells w2.heap.size 0 x = w3 at *; have hk3 := (unhide HK2).below (unhide HB3) (by omega); have e0 : w3.cell? ⟨w2.heap.size, 0, none⟩ = some (.int .i64 n) := (unhide HL3).cell 0 |>.trans (by simpa using unhide HX0); have b0 : w3.cell? ⟨w.heap.size, 0, none⟩ = some (.int .i64 rid) := hk3.cell 0; have bf := hk3.free 0; have HK3 := hide hk3; clear hk3)
  have HK4 := hide ((unhide HK3).set 0 (.int .i64 n))
  have HB4 : Hid (Below w1.heap.size w1 w1) := Below.refl _ _
  have hch4 : Chg (fun b => b ∈ O) w (w3.setCell ⟨w.heap.size, 0, none⟩ (.int .i64 n)) := (((Chg.of_new (X := fun b => b ∈ O) (unhide HB1)).trans (unhide HC2) (fun k hk => Or.inl hk)).trans (Chg.of_new (X := fun _ => False) (unhide HB3)) (fun k hk => hk.elim)).setCell _ _ (Or.inr (Nat.le_refl _))
  have hwo2 : w.heap.size ∉ O2 := fun ho => by rcases unhide HO2 _ ho with q | q; exact hwo q; omega
  have hv4 : Vol (w3.setCell ⟨w.heap.size, 0, none⟩ (.int .i64 n)) vb { A with reqs := r } O2 := ((unhide HV2).new (unhide HB3)).chg (X := fun b => b = w.heap.size) ((Chg.refl _ _).setCell _ _ (Or.inl rfl)) (fun b hb e => hwo2 (e ▸ hb))
  have HC4 := hide hch4
  have HV4 := hide hv4
  clear hch4 hv4 e0 b0 bf HK3 HB4
  generalize w3.setCell ⟨w.heap.size, 0, none⟩ (.int .i64 n) = w4 at *
  refine region_tail 4 (by kernel_rfl) (by kernel_rfl) ?_
  rintro w5 hw5
  have HK5 : Hid (Blk w5 w.heap.size (Array.setIfInBounds #[.int .i64 rid, .int .i64 e, .slice da dn dc, .int .i64 v, .int .i64 c] 0 (.int .i64 n)) 103) := by rw [hw5]; exact unhide HK4
  have HC5 : Hid (Chg (fun b => b ∈ O) w w5) := by rw [hw5]; exact (unhide HC4).drew
  have HV5 : Hid (Vol w5 vb { A with reqs := r } O2) := by rw [hw5]; exact (unhide HV4).chg (X := fun _ => False) (Chg.refl _ _).drew (fun _ _ => id)
  have d0 : w5.cell? ⟨w.heap.size, 0, none⟩ = some (.int .i64 n) := (unhide HK5).cell 0
  have d1 : w5.cell? ⟨w.heap.size, 1, none⟩ = some (.int .i64 e) := (unhide HK5).cell 1
  have d2 : w5.cell? ⟨w.heap.size, 2, none⟩ = some (.slice da dn dc) := (unhide HK5).cell 2
  have d3 : w5.cell? ⟨w.heap.size, 3, none⟩ = some (.int .i64 v) := (unhide HK5).cell 3
  have d4 : w5.cell? ⟨w.heap.size, 4, none⟩ = some (.int .i64 c) := (unhide HK5).cell 4
  have HP := hide (res_put vb { A with reqs := r } O2 [.int .i64 n, .int .i64 e, .slice da dn dc, .int .i64 v, .int .i64 c] w5 (unhide HV5) (by show A.ress.length ≤ 100000; omega) ⟨rfl, by intro u hu; simp only [List.mem_cons, List.not_mem_nil, or_false] at hu; rcases hu with rfl | rfl | rfl | rfl | rfl <;> rfl⟩)
  clear hw5 HK4 HC4 HV4
  simp only [List.take_succ_cons, List.take_zero, List.drop_succ_cons, List.drop_zero]
  repeat (refine wpStill_step (fun K hK => ?_); go_simp; (try go_ints); refine hK _ ?_; clear hK K)
  refine wpStill_nil ?_
  go_wp2_with fail
  refine (unhide HP).mono ?_
  rintro e' w6 ⟨rfl, hst⟩
  have HST : Hid (Step w O w6 vb { A with reqs := r, ress := A.ress ++ [[.int .i64 n, .int .i64 e, .slice da dn dc, .int .i64 v, .int .i64 c]] }) := Step.trans (unhide HC5) (fun b hb => by rcases unhide HO2 b hb with q | q; exact Or.inl q; exact Or.inr (by omega)) hst
  clear hst d0 d1 d2 d3 d4 HP
  go_wp2
  refine bodyPost_end (results_none rfl _ _ _) rfl ⟨rfl, unhide HST⟩

end Go.Proofs.YtdcinlkkjbclmaaGreat
