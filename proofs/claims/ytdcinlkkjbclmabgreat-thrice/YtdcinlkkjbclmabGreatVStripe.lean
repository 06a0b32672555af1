/- Where columns lie; a stripe's columns are read. -/
import Derived.Test.YtdcinlkkjbclmabGreatVLabels
namespace Go.Proofs.YtdcinlkkjbclmabGreat
open Go.RowKit

def dskAt (d s c : Int) : Int := (d - 1 - s % d + 2 + c) % d
set_option maxHeartbeats 400000 in
theorem diskOfP_any (d s : Int) (w : World) (h1 : 4 ≤ d) (h2 : d ≤ 8) (h3 : 0 ≤ s) (h4 : s ≤ 5) :
    Calls Tryz.prog 85 #[.int .i64 d, .int .i64 s] w fun e w' => e = .returned (.int .i64 (d - 1 - s % d)) ∧ w' = w := by
  have h5 : 0 ≤ s % d := Int.emod_nonneg _ (by omega)
  have h6 : s % d < d := Int.emod_lt_of_pos _ (by omega)
  go_enter Tryz.func85, Tryz.ntmps85
  go_wp2
  go_ret
  exact ⟨rfl, rfl⟩

set_option maxHeartbeats 400000 in
theorem disk_any (d s c : Int) (w : World) (h1 : 4 ≤ d) (h2 : d ≤ 8) (h3 : 0 ≤ s) (h4 : s ≤ 5) (h5 : 0 ≤ c) (h6 : c ≤ 8) :
    Calls Tryz.prog 83 #[.int .i64 d, .int .i64 s, .int .i64 c] w fun e w' => e = .returned (.int .i64 (dskAt d s c)) ∧ w' = w := by
  have h7 : 0 ≤ s % d := Int.emod_nonneg _ (by omega)
  have h8 : s % d < d := Int.emod_lt_of_pos _ (by omega)
  unfold dskAt
  go_enter Tryz.func83, Tryz.ntmps83
  go_wp2_with (go_at_call 85; refine (diskOfP_any _ _ _ h1 h2 h3 h4).mono ?_; rintro e w' ⟨rfl, rfl⟩)
  go_ret
  exact ⟨rfl, rfl⟩

set_option maxHeartbeats 400000 in
theorem sector_any (s : Int) (w : World) (h3 : 0 ≤ s) (h4 : s ≤ 5) :
    Calls Tryz.prog 84 #[.int .i64 s] w fun e w' => e = .returned (.int .i64 (17 + 2 * s)) ∧ w' = w := by
  go_enter Tryz.func84, Tryz.ntmps84
  go_wp2
  go_ret
  exact ⟨rfl, rfl⟩

set_option maxHeartbeats 400000 in
theorem block_any (d b : Int) (w : World) (h1 : 4 ≤ d) (h2 : d ≤ 8) (h3 : 0 ≤ b) (h4 : b ≤ 6 * (d - 2) - 1) :
    Calls Tryz.prog 81 #[.int .i64 d, .int .i64 b] w fun e w' => e = .returned (.agg #[.int .i64 (b / (d - 2)), .int .i64 (b % (d - 2)), .int .i64 (dskAt d (b / (d - 2)) (b % (d - 2))), .int .i64 (17 + 2 * (b / (d - 2)))]) ∧ Below w.heap.size w w' := by
  have q1 : 0 ≤ b / (d - 2) := Int.ediv_nonneg h3 (by omega)
  have q2 : b / (d - 2) ≤ 5 := by
    have : b / (d - 2) < 6 := Int.ediv_lt_of_lt_mul (by omega) (by omega)
    omega
  have q3 : 0 ≤ b % (d - 2) := Int.emod_nonneg _ (by omega)
  have q4 : b % (d - 2) < d - 2 := Int.emod_lt_of_pos _ (by omega)
  go_enter Tryz.func81, Tryz.ntmps81
  go_wp2_with fail
  go_quiet (fail)
  go_wp2_with (first | (go_at_call 83; refine (disk_any _ _ _ _ h1 h2 q1 q2 q3 (by omega)).mono ?_; rintro e w' ⟨rfl, rfl⟩) | (go_at_call 84; refine (sector_any _ _ q1 q2).mono ?_; rintro e w' ⟨rfl, rfl⟩))
  refine bodyPost_ret (v := .agg #[.int .i64 (b / (d - 2)), .int .i64 (b % (d - 2)), .int .i64 (dskAt d (b / (d - 2)) (b % (d - 2))), .int .i64 (17 + 2 * (b / (d - 2)))]) (by simp [results, Tryz.results81, go_sem]) rfl ⟨rfl, ?_⟩
  exact ((((below_drewN ((Below.refl _ _).alloc (Nat.le_refl _) _) nq).setCell (by simp) _).setCell (by simp) _).setCell (by simp) _).setCell (by simp) _


theorem results_two {P : Program} {fn : Func} {p p' : Tmp} {ty : TypeId} (h : fn.results = #[.cell p ty, .cell p' ty]) (tmps : Array Value) (w : World) (g g' : Nat) (t t' : TypeId) (cs cs' : Array Value) (fr fr' : Nat × Nat) (d : TypeDesc)
    (hp : tmps.getD p undef = .pointer (some ⟨g, 0, none⟩)) (hp' : tmps.getD p' undef = .pointer (some ⟨g', 0, none⟩)) (hg : w.heap[g]? = some (.cells cs t fr)) (hg' : w.heap[g']? = some (.cells cs' t' fr'))
    (hu : P.underlying ty = some d) (hd : (match d with | .struct _ | .array _ _ => true | _ => false) = true) (hi : (P.info? ty).map (·.size) = some cs.size) (hi' : (P.info? ty).map (·.size) = some cs'.size) :
    (results fn tmps).run P w = .ok (.tuple #[.agg cs, .agg cs']) w := by
  have h1 : tmps[p]?.getD undef = .pointer (some ⟨g, 0, none⟩) := by simpa using hp
  have h2 : tmps[p']?.getD undef = .pointer (some ⟨g', 0, none⟩) := by simpa using hp'
  simp [results, h, h1, h2, asAddr, run_loadVar_row w g t ty cs fr d hg hu hd hi, run_loadVar_row w g' t' ty cs' fr' d hg' hu hd hi']

set_option maxRecDepth 100000 in
set_option maxHeartbeats 1000000 in
theorem halves_any (s d : Int) (w : World) (h3 : 0 ≤ s) (h4 : s ≤ 5) :
    Calls Tryz.prog 133 #[.int .i64 s, .int .i64 d] w fun e w' => e = .returned (.tuple #[.agg #[.int .i64 d, .int .i64 (17 + 2 * s)], .agg #[.int .i64 d, .int .i64 (17 + 2 * s + 1)]]) ∧ Below w.heap.size w w' := by
  go_enter Tryz.func133, Tryz.ntmps133
  go_wp2_with (go_at_call 84; refine (sector_any _ _ h3 h4).mono ?_; rintro e w' ⟨rfl, rfl⟩)
  have k1 := (Blk.new w #[.int .i64 d, .int .i64 (17 + 2 * s)] 126).alloc (.cells #[.int .i64 d, .int .i64 (17 + 2 * s + 1)] 126)
  have k2 := Blk.new (w.alloc (.cells #[.int .i64 d, .int .i64 (17 + 2 * s)] 126)) #[.int .i64 d, .int .i64 (17 + 2 * s + 1)] 126
  rw [World.size_alloc] at k2
  refine bodyPost_ret (results_two Tryz.results133 _ _ w.heap.size (w.heap.size + 1) _ _ _ _ _ _ _ rfl rfl k1 k2 Tryz.underlying126 rfl (by kernel_rfl) (by kernel_rfl)) rfl ⟨rfl, ?_⟩
  exact ((Below.refl _ _).alloc (Nat.le_refl _) _).alloc (by simp) _

/-- a disk's column is read -/
def colRead (A : VA) (s : Int) (d : Nat) : VA := gaveA (gaveA A 1 d (17 + 2 * s) (.slice none 0 0)) 1 d (17 + 2 * s + 1) (.slice none 0 0)
theorem colRead_facts (A : VA) (s : Int) (d : Nat) : (colRead A s d).stand = A.stand ∧ (colRead A s d).wait.length ≤ A.wait.length + 2 := by
  unfold colRead
  refine ⟨(gaveA_stand _ _ _ _ _).trans (gaveA_stand _ _ _ _ _), ?_⟩
  have h1 := gaveA_wait (gaveA A 1 d (17 + 2 * s) (.slice none 0 0)) 1 d (17 + 2 * s + 1) (.slice none 0 0)
  have h2 := gaveA_wait A 1 d (17 + 2 * s) (.slice none 0 0)
  omega

set_option maxRecDepth 100000 in
set_option maxHeartbeats 1000000 in
theorem readColumn_any (tb vb : Nat) (A : VA) (O : List Nat) (s : Int) (d : Nat) (w : World) (h : Vol w vb A O) (ht : w.cell? ⟨tb, 0, none⟩ = some (.pointer (some ⟨vb, 0, none⟩))) (hto : tb ∉ O) (hd : d < A.stand.length) (hl : A.wait.length ≤ 90000) (h3 : 0 ≤ s) (h4 : s ≤ 5) :
    Calls Tryz.prog 141 #[.pointer (some ⟨tb, 0, none⟩), .int .i64 s, .int .i64 (d : Int)] w fun e w' => e = .returned (.tuple #[]) ∧ Step w O w' vb (colRead A s d) := by
  have htl := block_lt_of_cell ht
  have hlt := h.lt
  have HV := hide h
  have HLT := hide hlt
  clear h hlt
  go_enter Tryz.func141, Tryz.ntmps141
  go_wp2_with fail
  refine (halves_any s d w h3 h4).mono ?_
  rintro e w1 ⟨rfl, hb1⟩
  have k1 := (Blk.new w1 #[.int .i64 (d : Int), .int .i64 (17 + 2 * s)] 126).alloc (.cells #[.int .i64 (d : Int), .int .i64 (17 + 2 * s + 1)] 126)
  have k2 := Blk.new (w1.alloc (.cells #[.int .i64 (d : Int), .int .i64 (17 + 2 * s)] 126)) #[.int .i64 (d : Int), .int .i64 (17 + 2 * s + 1)] 126
  rw [World.size_alloc] at k2
  have hs1 := hb1.size
  have hb2 : Below w.heap.size w ((w1.alloc (.cells #[.int .i64 (d : Int), .int .i64 (17 + 2 * s)] 126)).alloc (.cells #[.int .i64 (d : Int), .int .i64 (17 + 2 * s + 1)] 126)) := (hb1.alloc hs1 _).alloc (by simp; omega) _
  have HB2 := hide hb2
  have HK2 := hide k2
  have hsz : ((w1.alloc (.cells #[.int .i64 (d : Int), .int .i64 (17 + 2 * s)] 126)).alloc (.cells #[.int .i64 (d : Int), .int .i64 (17 + 2 * s + 1)] 126)).heap.size = w1.heap.size + 1 + 1 := by simp
  have HSZ := hide hsz
  clear hb1 hb2 k1 k2 hsz
  go_wp2_with fail
  generalize (w1.alloc (.cells #[.int .i64 (d : Int), .int .i64 (17 + 2 * s)] 126)).alloc (.cells #[.int .i64 (d : Int), .int .i64 (17 + 2 * s + 1)] 126) = w2 at *
  have hsz := unhide HSZ
  refine (read_any tb vb A O d (17 + 2 * s) w2 ((unhide HV).new (unhide HB2)) (((unhide HB2).cell (by exact htl)).trans ht) hd (by omega)).mono ?_
  rintro e w3 ⟨rfl, O1, v1, c1, o1⟩
  have hs3 := c1.size
  have hwo : w1.heap.size + 1 ∉ O := fun ho => by have := unhide HLT _ ho; omega
  have k3 := (unhide HK2).chg c1 hwo
  have b0 : w3.cell? ⟨w1.heap.size + 1, 0, none⟩ = some (.int .i64 (d : Int)) := k3.cell 0
  have b1 : w3.cell? ⟨w1.heap.size + 1, 1, none⟩ = some (.int .i64 (17 + 2 * s + 1)) := k3.cell 1
  have t3 : w3.cell? ⟨tb, 0, none⟩ = some (.pointer (some ⟨vb, 0, none⟩)) := by
    rw [World.cell?_of_block (w := w2) (c1.block tb (by omega) hto), (unhide HB2).cell (by exact htl)]
    exact ht
  have f1 := gaveA_stand A 1 d (17 + 2 * s) (.slice none 0 0)
  have f2 := gaveA_wait A 1 d (17 + 2 * s) (.slice none 0 0)
  have HR := hide (read_any tb vb _ O1 d (17 + 2 * s + 1) w3 v1 t3 (by rw [f1]; exact hd) (by omega))
  have HC := hide c1
  have HO := hide o1
  clear k3 v1 c1 o1 f1 f2 t3 ht
  go_wp2_with fail
  refine (unhide HR).mono ?_
  rintro e w4 ⟨rfl, hst⟩
  have HST := hide (Step.new (unhide HB2) (Step.trans (unhide HC) (unhide HO) hst))
  clear hst HR b0 b1
  go_wp2
  refine bodyPost_end (results_none rfl _ _ _) rfl ⟨rfl, unhide HST⟩

/-- the columns of these disks are read -/
def stripeRead (A : VA) (s : Int) (L : List Nat) : VA := L.foldl (fun A d => colRead A s d) A
theorem stripeRead_snoc (A : VA) (s : Int) (L : List Nat) (d : Nat) : stripeRead A s (L ++ [d]) = colRead (stripeRead A s L) s d := by unfold stripeRead; rw [List.foldl_append]; rfl
theorem stripeRead_facts (A : VA) (s : Int) (L : List Nat) : (stripeRead A s L).stand = A.stand ∧ (stripeRead A s L).wait.length ≤ A.wait.length + 2 * L.length := by
  unfold stripeRead
  induction L generalizing A with
  | nil => exact ⟨rfl, Nat.le_refl _⟩
  | cons d r ih =>
    obtain ⟨h1, h2⟩ := ih (colRead A s d)
    obtain ⟨h3, h4⟩ := colRead_facts A s d
    refine ⟨h1.trans h3, ?_⟩
    simp only [List.length_cons, List.foldl_cons] at *
    omega

set_option maxRecDepth 100000 in
set_option maxHeartbeats 2000000 in
theorem readStripe_any (tb vb : Nat) (A : VA) (O : List Nat) (s : Int) (w : World) (h : Vol w vb A O) (ht : w.cell? ⟨tb, 0, none⟩ = some (.pointer (some ⟨vb, 0, none⟩))) (hto : tb ∉ O) (hs : A.stand.length ≤ 8) (hl : A.wait.length ≤ 80000) (h3 : 0 ≤ s) (h4 : s ≤ 5) :
    Calls Tryz.prog 139 #[.pointer (some ⟨tb, 0, none⟩), .int .i64 s] w fun e w' => e = .returned (.tuple #[]) ∧ Step w O w' vb (stripeRead A s (cur A.stand)) := by
  have htl := block_lt_of_cell ht
  have hlt := h.lt
  have hcl := curTo_len A.stand A.stand.length
  have HV := hide h
  have HLT := hide hlt
  have HT := hide ht
  clear h hlt
  go_enter Tryz.func139, Tryz.ntmps139
  go_wp2_with fail
  refine (current_any vb A O w (unhide HV) hs).mono ?_
  rintro e w2 ⟨v, rfl, hov, hb2⟩
  obtain ⟨lb, ⟨la, c, rfl, hcell⟩, hlb⟩ := diskL_own hov
  have hs2 := hb2.size
  have HV2 := hide ((unhide HV).new hb2)
  have HT2 : Hid (w2.cell? ⟨tb, 0, none⟩ = some (.pointer (some ⟨vb, 0, none⟩))) := by rw [hb2.cell (by exact htl)]; exact ht
  have HBW := hide hb2
  have HCE := hide hcell
  have HLB := hide hlb
  have HCU' : Hid (∀ d ∈ cur A.stand, d < A.stand.length) := curTo_lt A.stand A.stand.length
  clear hov hb2 hcell hlb ht
  have hcc : (cur A.stand).length ≤ 8 := Nat.le_trans hcl hs
  clear hcl
  generalize hC : cur A.stand = C at *
  have HC := hide hC
  clear hC
  go_wp2
  go_loopw [12] (fun iv wr => ∃ (k : Nat) (Ok : List Nat), k ≤ C.length ∧ iv = .int .i64 (k : Int) ∧ Vol wr vb (stripeRead A s (C.take k)) Ok ∧ Chg (fun b => b ∈ O) w2 wr ∧ ∀ b ∈ Ok, b ∈ O ∨ w2.heap.size ≤ b) (fun i _ => C.length - (intOf i).toNat)
  case atStart => exact ⟨0, O, Nat.zero_le _, rfl, by simpa [stripeRead] using unhide HV2, Chg.refl _ _, fun b hb => Or.inl hb⟩
  case round =>
    obtain ⟨k, Ok, hk, rfl, hvk, hck, hok⟩ := hrel
    rcases Nat.lt_or_ge k C.length with hlt | hge
    · obtain ⟨d, hd⟩ : ∃ d, C[k]? = some d := ⟨C[k], List.getElem?_eq_getElem hlt⟩
      obtain ⟨b, hb, rfl, hcell⟩ := unhide HCE k d hd
      have hdl := unhide HCU' d (List.mem_of_getElem? hd)
      have hbb := unhide HLB b hb
      clear hb
      have hbo : b ∉ O := fun ho => by have := unhide HLT b ho; omega
      have c0 : wr.cell? ⟨b, k, none⟩ = some (.int .i64 (d : Int)) := by
        rw [World.cell?_of_block (w := w2) (hck.block b (block_lt_of_cell hcell) hbo)]
        exact hcell
      have c1 : wr.cell? ⟨tb, 0, none⟩ = some (.pointer (some ⟨vb, 0, none⟩)) := by
        rw [World.cell?_of_block (w := w2) (hck.block tb (by omega) hto)]
        exact unhide HT2
      have hsn : stripeRead A s (C.take (k + 1)) = colRead (stripeRead A s (C.take k)) s d := by
        rw [List.take_succ_eq_append_getElem hlt, stripeRead_snoc]
        congr 1
        rw [List.getElem?_eq_getElem hlt] at hd
        exact Option.some.inj hd
      obtain ⟨f1, f2⟩ := stripeRead_facts A s (C.take k)
      rw [List.length_take] at f2
      have htk : tb ∉ Ok := fun ho => by rcases hok tb ho with q | q; exact hto q; omega
      have HSN := hide hsn
      have HCK := hide hck
      have HOK := hide hok
      have hk0 : (0 : Int) ≤ (k : Int) := by omega
      have hk1 : (k : Int) < (C.length : Int) := by omega
      have HG := hide (readColumn_any tb vb (stripeRead A s (C.take k)) Ok s d wr hvk c1 htk (by rw [f1]; exact hdl) (by omega) h3 h4)
      clear hsn hvk hck hok hd hcell f1 f2 c1
      go_wp2_with fail
      refine (unhide HG).mono ?_
      rintro e w3 ⟨rfl, hst⟩
      obtain ⟨O1, v1, ch1, o1⟩ := Step.trans (unhide HCK) (unhide HOK) hst
      have HV1 : Hid (Vol w3 vb (stripeRead A s (C.take (k + 1))) O1) := by rw [unhide HSN]; exact v1
      have HC1 := hide ch1
      have HO1 := hide o1
      clear hst v1 ch1 o1 c0 HG
      go_wp2
      go_roundw
      case rel => exact ⟨k + 1, O1, by omega, by go_num, unhide HV1, unhide HC1, unhide HO1⟩
      case measure => simp [intOf]; omega
    · obtain rfl : k = C.length := by omega
      rw [List.take_length] at hvk
      have HST := hide (Step.new (unhide HBW) ⟨Ok, hvk, hck, hok⟩)
      clear hvk hck hok
      go_wp2
      refine bodyPost_end (results_none rfl _ _ _) rfl ⟨rfl, by rw [unhide HC]; exact unhide HST⟩

set_option maxHeartbeats 1000000 in
theorem blocks_any (vb : Nat) (A : VA) (O : List Nat) (w : World) (h : Vol w vb A O) (hs1 : 4 ≤ A.stand.length) (hs : A.stand.length ≤ 8) (hst : A.stripes ≤ 6) :
    Calls Tryz.prog 49 #[.pointer (some ⟨vb, 0, none⟩)] w fun e w' => e = .returned (.int .i64 ((A.stripes : Int) * ((A.stand.length : Int) - 2))) ∧ ∃ n, w' = w.drewN n := by
  obtain ⟨G, hG, _⟩ := id h
  have c1 : w.cell? ⟨vb, 1, none⟩ = some (.int .i64 (A.stripes : Int)) := hG.blk.cell 1
  have HD : Hid (∀ n, Calls Tryz.prog 58 #[.pointer (some ⟨vb, 0, none⟩)] (w.drewN n) fun e w' => e = .returned (.int .i64 (A.stand.length : Int)) ∧ w' = w.drewN n) := fun n => disks_any vb A O _ (h.chg (X := fun _ => False) ((Chg.refl _ _).drewN n) (fun _ _ => id))
  have h1 : (A.stand.length : Int) ≤ 8 := by omega
  have h2 : (4 : Int) ≤ (A.stand.length : Int) := by omega
  have h3 : (A.stripes : Int) ≤ 6 := by omega
  have h4 : (0 : Int) ≤ (A.stripes : Int) := by omega
  have h5 : (A.stripes : Int) * ((A.stand.length : Int) - 2) ≤ 36 := by
    have := Int.mul_le_mul h3 (show (A.stand.length : Int) - 2 ≤ 6 by omega) (by omega) (by omega)
    omega
  have h6 : 0 ≤ (A.stripes : Int) * ((A.stand.length : Int) - 2) := Int.mul_nonneg h4 (by omega)
  clear h hG
  go_enter Tryz.func49, Tryz.ntmps49
  go_wp2
  go_quiet ((go_at_call 58; exact Calls.quiet_of_same (unhide HD _)))
  go_wp2
  go_ret
  exact ⟨rfl, nq, rfl⟩

end Go.Proofs.YtdcinlkkjbclmabGreat
