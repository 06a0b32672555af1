/- A request that comes to a volume at rest is begun. -/
import Derived.Test.YtdcinlkkjbclmaaGreatMARunsAPlat
namespace Go.Proofs.YtdcinlkkjbclmaaGreat
open Go.RowKit

/-- a request was begun: commands wait -/
def Began (w : World) (O : List Nat) (w' : World) (vb : Nat) (A : VA) : Prop := ∃ A' O', Vol w' vb A' O' ∧ A'.stand = A.stand ∧ A'.told = A.told ∧ A'.state = A.state ∧ A'.wait ≠ [] ∧ Chg (fun b => b ∈ O) w w' ∧ ∀ b ∈ O', b ∈ O ∨ w.heap.size ≤ b
def Turn (w : World) (O : List Nat) (vb : Nat) (A : VA) : Prop :=
  Calls Tryz.prog 100 #[.pointer (some ⟨vb, 0, none⟩)] w fun e w' => ∃ v, e = .returned v ∧ Calls Tryz.prog 71 #[.pointer (some ⟨vb, 0, none⟩), v] w' fun e w'' => e = .returned (.tuple #[]) ∧ Began w O w'' vb A

theorem col_new (A : VA) (s : Int) (d : Nat) (h : A.stand.getD d 0 ≠ 1) : (colRead A s d).stand = A.stand ∧ (colRead A s d).told = A.told ∧ (colRead A s d).state = A.state ∧ (colRead A s d).wait ≠ [] := by
  unfold colRead
  rw [gave_one _ _ _ _ _ h]
  rw [gave_one _ _ _ _ _ (by exact h)]
  exact ⟨rfl, rfl, rfl, by simp⟩
theorem stripe_new (A : VA) (s : Int) (D : Nat) (hs : A.stand = List.replicate D 0) (hD : 0 < D) : (stripeRead A s (cur A.stand)).stand = A.stand ∧ (stripeRead A s (cur A.stand)).told = A.told ∧ (stripeRead A s (cur A.stand)).state = A.state ∧ (stripeRead A s (cur A.stand)).wait ≠ [] := by
  rw [stripe_all _ _ _ (fun d _ => by rw [hs]; exact getD_zero D d)]
  refine ⟨rfl, rfl, rfl, fun e => ?_⟩
  have := congrArg List.length e
  rw [hs, cur_all] at this
  obtain ⟨k, rfl⟩ : ∃ k, D = k + 1 := ⟨D - 1, by omega⟩
  rw [List.range_succ_eq_map] at this
  simp at this

/-- what a task's begin leaves, out of what choose left -/
theorem began_of {w w1 w2 w3 : World} {O O1 O2 O3 : List Nat} {vb tb : Nat} {A A3 : VA} (c1 : Chg (fun b => b ∈ O) w w1) (o1 : ∀ b ∈ O1, b ∈ O ∨ w.heap.size ≤ b) (c2 : Chg (fun b => b ∈ O1) w1 w2) (o2 : ∀ b ∈ O2, b ∈ O1 ∨ w1.heap.size ≤ b) (htb : w.heap.size ≤ tb)
    (v3 : Vol w3 vb A3 O3) (c3 : Chg (fun k => k ∈ O2 ∨ k = tb) w2 w3) (o3 : ∀ k ∈ O3, k ∈ O2 ∨ w2.heap.size ≤ k) (hA : A3.stand = A.stand ∧ A3.told = A.told ∧ A3.state = A.state ∧ A3.wait ≠ []) : Began w O w3 vb A := by
  have hs1 := c1.size
  have hs2 := c2.size
  refine ⟨A3, O3, v3, hA.1, hA.2.1, hA.2.2.1, hA.2.2.2, ?_, fun k hk => ?_⟩
  · refine (c1.trans c2 o1).trans c3 (fun k hk => ?_)
    rcases hk with hk | rfl
    · rcases o2 k hk with q | q
      · exact o1 k q
      · exact Or.inr (by omega)
    · exact Or.inr htb
  · rcases o3 k hk with q | q
    · rcases o2 k q with q | q
      · exact o1 k q
      · exact Or.inr (by omega)
    · exact Or.inr (by omega)

theorem dsk_lt (D b : Int) (h : 4 ≤ D) : 0 ≤ dskAt D (b / (D - 2)) (b % (D - 2)) ∧ dskAt D (b / (D - 2)) (b % (D - 2)) < D := by
  unfold dskAt
  exact ⟨Int.emod_nonneg _ (by omega), Int.emod_lt_of_pos _ (by omega)⟩

theorem getD_rep (D k : Nat) : (List.replicate D (0 : Int)).getD k 0 = 0 := by
  rw [List.getD_eq_getElem?_getD, List.getElem?_replicate]
  split <;> simp
theorem readTurn (vb D : Nat) (A : VA) (O : List Nat) (n b : Int) (bs : List Value) (r : List (List Value)) (w : World) (h : Vol w vb A O) (hw : A.reqs = (.int .i64 n :: .int .i64 1 :: .int .i64 b :: bs) :: r) (hs : A.stand = List.replicate D 0) (h1 : 4 ≤ D) (h2 : D ≤ 8) (h3 : 0 ≤ b) (h4 : b ≤ 6 * ((D : Int) - 2) - 1) (hl : A.wait.length ≤ 70000) : Turn w O vb A := by
  have hlen : A.stand.length = D := by rw [hs]; exact List.length_replicate
  refine (choose_by vb A O (fun v w' => ∃ tb, v = rdgV tb ∧ w.heap.size ≤ tb ∧ ReadT w' tb vb (D : Int) b) w h (fun w' O' hv' hsz => (firstRead_any vb { A with first := true } O' n b bs r w' hv' hw (by rw [hlen]; exact h1) (by rw [hlen]; exact h2) h3 (by rw [hlen]; exact h4)).mono (fun e w'' hh => by
    obtain ⟨tb, rfl, e1, e2, e3⟩ := hh
    rw [hlen] at e2
    exact ⟨_, rfl, ⟨tb, rfl, by omega, e2⟩, e3⟩))).mono ?_
  rintro e w1 ⟨v, O1, rfl, v1, c1, o1, ⟨tb, rfl, htb, ⟨cs, k1, k2, k3, k4, k5⟩⟩, hlt1⟩
  have hlt0 : tb < w1.heap.size := k1.lt
  have ht1 : tb ∉ O1 := fun ho => by have := hlt1 _ ho; omega
  obtain ⟨O2, v2, c2, o2⟩ := vol_set (A' := { A with first := true, at' := rdgV tb }) v1 3 (rdgV tb) (fun G => by unfold volC; simp) rfl rfl rfl rfl rfl
  have ht2 : tb ∉ O2 := fun ho => by rcases o2 _ ho with q | q; exact ht1 q; omega
  have kk := k1.chg c2 ht1
  obtain ⟨g1, g2⟩ := dsk_lt (D : Int) b (by omega)
  obtain ⟨d, hd⟩ := Int.eq_ofNat_of_zero_le g1
  have hdD : d < D := by omega
  have q1 : 0 ≤ b / ((D : Int) - 2) := Int.ediv_nonneg h3 (by omega)
  have q2 : b / ((D : Int) - 2) ≤ 5 := by
    have : b / ((D : Int) - 2) < 6 := Int.ediv_lt_of_lt_mul (by omega) (by omega)
    omega
  refine ⟨_, rfl, start_r vb tb _ O1 _ w1 v1 ((readBegin_any tb vb { A with first := true, at' := rdgV tb } O2 (b / ((D : Int) - 2)) d .nilFunc _ v2 ht2 (by show d < A.stand.length; omega) (by show A.stand.getD d 0 = 0; rw [hs]; exact getD_rep D d) ((kk.cell 0).trans k2) ((kk.cell 2).trans k3) (kk.free 2) ((kk.cell 3).trans k4) ((kk.cell 5).trans (by rw [k5, hd])) q1 q2 hl).mono ?_)⟩
  rintro e w3 ⟨rfl, O3, v3, c3, o3⟩
  exact ⟨rfl, began_of c1 o1 c2 o2 htb v3 c3 o3 (col_new { A with first := true, at' := rdgV tb } _ _ (by show A.stand.getD d 0 ≠ 1; rw [hs]; exact getD_zero D d))⟩

theorem scrubTurn (vb D : Nat) (A : VA) (O : List Nat) (n b : Int) (bs : List Value) (r : List (List Value)) (w : World) (h : Vol w vb A O) (hw : A.reqs = (.int .i64 n :: .int .i64 4 :: .int .i64 b :: bs) :: r) (hs : A.stand = List.replicate D 0) (h1 : 4 ≤ D) (h2 : D ≤ 8) (h3 : 0 ≤ b) (h4 : b ≤ 5) (hl : A.wait.length ≤ 70000) : Turn w O vb A := by
  have hlen : A.stand.length = D := by rw [hs]; exact List.length_replicate
  refine (choose_by vb A O (fun v w' => ∃ tb, v = scrV tb ∧ w.heap.size ≤ tb ∧ ScrubT w' tb vb b) w h (fun w' O' hv' hsz => (firstScrub_any vb { A with first := true } O' n b bs r w' hv' hw).mono (fun e w'' hh => by
    obtain ⟨tb, rfl, e1, e2, e3⟩ := hh
    exact ⟨_, rfl, ⟨tb, rfl, by omega, e2⟩, e3⟩))).mono ?_
  rintro e w1 ⟨v, O1, rfl, v1, c1, o1, ⟨tb, rfl, htb, ⟨cs, k1, k2, k3, k4⟩⟩, hlt1⟩
  have hlt0 : tb < w1.heap.size := k1.lt
  have ht1 : tb ∉ O1 := fun ho => by have := hlt1 _ ho; omega
  obtain ⟨O2, v2, c2, o2⟩ := vol_set (A' := { A with first := true, at' := scrV tb }) v1 3 (scrV tb) (fun G => by unfold volC; simp) rfl rfl rfl rfl rfl
  have ht2 : tb ∉ O2 := fun ho => by rcases o2 _ ho with q | q; exact ht1 q; omega
  have kk := k1.chg c2 ht1
  refine ⟨_, rfl, start_s vb tb _ O1 _ w1 v1 ((scrubBegin_any tb vb { A with first := true, at' := scrV tb } O2 b .nilFunc _ v2 ht2 (by rw [hlen]; exact h2) (by show (cur A.stand).length = A.stand.length; rw [hs, cur_all]; simp) ((kk.cell 0).trans k2) ((kk.cell 2).trans k3) (kk.free 2) ((kk.cell 3).trans k4) h3 h4 hl).mono ?_)⟩
  rintro e w3 ⟨rfl, O3, v3, c3, o3⟩
  exact ⟨rfl, began_of c1 o1 c2 o2 htb v3 c3 o3 (stripe_new { A with first := true, at' := scrV tb } _ D hs (by omega))⟩

theorem write2Turn (vb D : Nat) (A : VA) (O : List Nat) (n b : Int) (bs : List Value) (r : List (List Value)) (w : World) (h : Vol w vb A O) (hw : A.reqs = (.int .i64 n :: .int .i64 2 :: .int .i64 b :: bs) :: r) (hs : A.stand = List.replicate D 0) (h1 : 4 ≤ D) (h2 : D ≤ 8) (h3 : 0 ≤ b) (h4 : b ≤ 6 * ((D : Int) - 2) - 1) (hbs : bs.length = 16) (hl : A.wait.length ≤ 70000) : Turn w O vb A := by
  have hlen : A.stand.length = D := by rw [hs]; exact List.length_replicate
  refine (choose_by vb A O (fun v w' => ∃ tb, v = wrtV tb ∧ w.heap.size ≤ tb ∧ WriteT w' tb vb b) w h (fun w' O' hv' hsz => (firstWrite_any vb { A with first := true } O' n b bs r w' hv' hw hbs).mono (fun e w'' hh => by
    obtain ⟨tb, rfl, e1, e2, e3⟩ := hh
    exact ⟨_, rfl, ⟨tb, rfl, by omega, e2⟩, e3⟩))).mono ?_
  rintro e w1 ⟨v, O1, rfl, v1, c1, o1, ⟨tb, rfl, htb, ⟨cs, k1, k2, k3, k4⟩⟩, hlt1⟩
  have hlt0 : tb < w1.heap.size := k1.lt
  have ht1 : tb ∉ O1 := fun ho => by have := hlt1 _ ho; omega
  obtain ⟨O2, v2, c2, o2⟩ := vol_set (A' := { A with first := true, at' := wrtV tb }) v1 3 (wrtV tb) (fun G => by unfold volC; simp) rfl rfl rfl rfl rfl
  have ht2 : tb ∉ O2 := fun ho => by rcases o2 _ ho with q | q; exact ht1 q; omega
  have kk := k1.chg c2 ht1
  refine ⟨_, rfl, start_w vb tb _ O1 _ w1 v1 ((writeBegin_any tb vb { A with first := true, at' := wrtV tb } O2 b .nilFunc _ v2 ht2 ((kk.cell 0).trans k2) ((kk.cell 2).trans k3) (kk.free 2) ((kk.cell 3).trans k4) (by rw [hlen]; exact h1) (by rw [hlen]; exact h2) h3 (by rw [hlen]; exact h4) hl).mono ?_)⟩
  rintro e w3 ⟨rfl, O3, v3, c3, o3⟩
  exact ⟨rfl, began_of c1 o1 c2 o2 htb v3 c3 o3 (stripe_new { A with first := true, at' := wrtV tb } _ D hs (by omega))⟩

theorem run_began (vb : Nat) (A : VA) (O : List Nat) (w : World) (h : Vol w vb A O) (hb : Busy A) (ha : A.at' = .nilIface) (hr : A.reqs ≠ []) (ht : Turn w O vb A) :
    Calls Tryz.prog 78 #[.pointer (some ⟨vb, 0, none⟩)] w fun e w' => e = .returned (.tuple #[]) ∧ Began w O w' vb A := by
  refine run_by vb (fun k w' => (k = 1 ∧ w' = w) ∨ (k = 0 ∧ Began w O w' vb A)) _ (fun k w' hk => ?_) 1 (by omega) w (Or.inl ⟨rfl, rfl⟩)
  rcases hk with ⟨rfl, rfl⟩ | ⟨rfl, hg⟩
  · exact Or.inr (Or.inr (Or.inr ⟨A, O, 0, by omega, h, hb, ha, hr, ht.mono (fun e w1 hh => by
      obtain ⟨v, rfl, hst⟩ := hh
      exact ⟨v, rfl, hst.mono (fun e w2 hh => ⟨hh.1, Or.inr ⟨rfl, hh.2⟩⟩)⟩)⟩))
  · obtain ⟨A', O', v', _, _, e3, e4, _⟩ := id hg
    exact Or.inl ⟨A', O', v', Or.inr (Or.inl ⟨by rw [e3]; exact hb.1, e4⟩), hg⟩

end Go.Proofs.YtdcinlkkjbclmaaGreat

/- Submit at a volume at rest; what is refused. -/
namespace Go.Proofs.YtdcinlkkjbclmaaGreat
open Go.RowKit

theorem cmd_zero (w : World) : (zeroValue 91).run Tryz.prog w = .ok (.agg #[.int .i64 0, .int .i64 0, .int .i64 0, .int .i64 0, .slice none 0 0]) w := by kernel_rfl
set_option maxRecDepth 100000 in
set_option maxHeartbeats 2000000 in
theorem done_none (vb : Nat) (A : VA) (O : List Nat) (n : Int) (ok : Bool) (dv : Value) (w : World) (h : Vol w vb A O) (hj : A.told.findIdx? (fun c => c.id == n) = none) :
    Calls Tryz.prog 42 #[.pointer (some ⟨vb, 0, none⟩), .int .i64 n, .bool ok, dv] w fun e w' => e = .returned (.int .i64 1) ∧ Below w.heap.size w w' := by
  obtain ⟨G, hG, hGO, hGn, hGd⟩ := id h
  have c7 : w.cell? ⟨vb, 7, none⟩ = some (.map (some G.mb)) := hG.blk.cell 7
  have hlk := run_lookup_none (P := Tryz.prog) told_under int_under hG.map n hj (cmd_zero w)
  have HB0 := hide ((Below.refl w.heap.size w).alloc (Nat.le_refl _) (.cells #[.int .i64 0, .int .i64 0, .int .i64 0, .int .i64 0, .slice none 0 0] 91))
  clear h hG hGO hGn hGd hj
  go_enter Tryz.func42, Tryz.ntmps42
  go_wp2
  go_ret
  exact ⟨rfl, unhide HB0⟩

set_option maxRecDepth 100000 in
set_option maxHeartbeats 2000000 in
theorem hasDisk_all (vb : Nat) (A : VA) (O : List Nat) (d : Int) (w : World) (h : Vol w vb A O) :
    Calls Tryz.prog 80 #[.pointer (some ⟨vb, 0, none⟩), .int .i64 d] w fun e w' => e = .returned (.bool (decide (0 ≤ d ∧ d < (A.stand.length : Int)))) ∧ w' = w := by
  have HD := hide (disks_any vb A O w h)
  clear h
  generalize (A.stand.length : Int) = m at *
  by_cases h1 : 0 ≤ d
  · by_cases h2 : d < m
    · go_enter Tryz.func80, Tryz.ntmps80
      go_wp2_with (go_at_call 106; refine (unhide HD).mono ?_; rintro e w1 ⟨rfl, hw1⟩; obtain rfl := hw1)
      go_ret
      exact ⟨by simp [h1, h2], rfl⟩
    · go_enter Tryz.func80, Tryz.ntmps80
      go_wp2_with (go_at_call 106; refine (unhide HD).mono ?_; rintro e w1 ⟨rfl, hw1⟩; obtain rfl := hw1)
      go_ret
      exact ⟨by simp <;> omega, rfl⟩
  · clear HD
    go_enter Tryz.func80, Tryz.ntmps80
    go_wp2
    go_ret
    exact ⟨by simp <;> omega, rfl⟩

set_option maxRecDepth 100000 in
set_option maxHeartbeats 2000000 in
theorem replace_no (vb : Nat) (A : VA) (O : List Nat) (d : Int) (w : World) (h : Vol w vb A O) (hs : ∀ k, A.stand.getD k 0 = 0) :
    Calls Tryz.prog 43 #[.pointer (some ⟨vb, 0, none⟩), .int .i64 d] w fun e w' => e = .returned (.int .i64 1) ∧ w' = w := by
  have HH := hide (hasDisk_all vb A O d w h)
  obtain ⟨G, hG, _⟩ := id h
  have c0 : w.cell? ⟨vb, 0, none⟩ = some (.slice (some ⟨G.sb, 0, none⟩) A.stand.length A.stand.length) := hG.blk.cell 0
  have hst := hG.std
  clear h hG
  by_cases hd : 0 ≤ d ∧ d < (A.stand.length : Int)
  · rw [decide_eq_true hd] at HH
    obtain ⟨k, hk⟩ := Int.eq_ofNat_of_zero_le hd.1
    subst hk
    have cs : w.cell? ⟨G.sb, k, none⟩ = some (.int .i64 0) := by rw [stand_at hst k (by omega), hs]
    have hd1 : (k : Int) < (A.stand.length : Int) := hd.2
    have hd2 : k < A.stand.length := by omega
    clear hst hd hs
    generalize A.stand.length = m at *
    go_enter Tryz.func43, Tryz.ntmps43
    go_wp2_with (go_at_call 80; refine (unhide HH).mono ?_; rintro e w1 ⟨rfl, hw1⟩; obtain rfl := hw1)
    go_ret
    exact ⟨rfl, rfl⟩
  · rw [decide_eq_false hd] at HH
    clear hst c0 hd hs
    go_enter Tryz.func43, Tryz.ntmps43
    go_wp2_with (go_at_call 80; refine (unhide HH).mono ?_; rintro e w1 ⟨rfl, hw1⟩; obtain rfl := hw1)
    go_ret
    exact ⟨rfl, rfl⟩

set_option maxRecDepth 100000 in
set_option maxHeartbeats 2000000 in
theorem member_any (vb : Nat) (A : VA) (O : List Nat) (d : Int) (w : World) (h : Vol w vb A O) (hs : ∀ k, A.stand.getD k 0 = 0) :
    Calls Tryz.prog 44 #[.pointer (some ⟨vb, 0, none⟩), .int .i64 d] w fun e w' => e = .returned (.tuple #[.int .i64 0, .int .i64 (if 0 ≤ d ∧ d < (A.stand.length : Int) then 0 else 1)]) ∧ w' = w := by
  have HH := hide (hasDisk_all vb A O d w h)
  obtain ⟨G, hG, _⟩ := id h
  have c0 : w.cell? ⟨vb, 0, none⟩ = some (.slice (some ⟨G.sb, 0, none⟩) A.stand.length A.stand.length) := hG.blk.cell 0
  have hst := hG.std
  clear h hG
  by_cases hd : 0 ≤ d ∧ d < (A.stand.length : Int)
  · rw [decide_eq_true hd] at HH
    rw [if_pos hd]
    obtain ⟨k, hk⟩ := Int.eq_ofNat_of_zero_le hd.1
    subst hk
    have cs : w.cell? ⟨G.sb, k, none⟩ = some (.int .i64 0) := by rw [stand_at hst k (by omega), hs]
    have hd1 : (k : Int) < (A.stand.length : Int) := hd.2
    have hd2 : k < A.stand.length := by omega
    clear hst hd hs
    generalize A.stand.length = m at *
    go_enter Tryz.func44, Tryz.ntmps44
    go_wp2_with (go_at_call 80; refine (unhide HH).mono ?_; rintro e w1 ⟨rfl, hw1⟩; obtain rfl := hw1)
    refine bodyPost_ret (results_tmp2 rfl _ _ _) rfl ⟨rfl, rfl⟩
  · rw [decide_eq_false hd] at HH
    rw [if_neg hd]
    clear hst c0 hd hs
    go_enter Tryz.func44, Tryz.ntmps44
    go_wp2_with (go_at_call 80; refine (unhide HH).mono ?_; rintro e w1 ⟨rfl, hw1⟩; obtain rfl := hw1)
    refine bodyPost_ret (results_tmp2 rfl _ _ _) rfl ⟨rfl, rfl⟩

set_option maxRecDepth 100000 in
set_option maxHeartbeats 2000000 in
theorem wrapReplace (pb vb : Nat) (A : VA) (O : List Nat) (d : Int) (w : World) (hp : w.cell? ⟨pb, 0, none⟩ = some (.pointer (some ⟨vb, 0, none⟩))) (h : Vol w vb A O) (hs : ∀ k, A.stand.getD k 0 = 0) :
    Calls Tryz.prog 19 #[.pointer (some ⟨pb, 0, none⟩), .int .i64 d] w fun e w' => e = .returned (.int .i64 1) ∧ w' = w := by
  have HC := hide (replace_no vb A O d w h hs)
  clear h
  go_enter Tryz.func19, Tryz.ntmps19
  go_wp2_with (go_at_call 43; refine (unhide HC).mono ?_; rintro e w1 ⟨rfl, hw1⟩; obtain rfl := hw1)
  go_ret
  exact ⟨rfl, rfl⟩
set_option maxRecDepth 100000 in
set_option maxHeartbeats 2000000 in
theorem wrapMember (pb vb : Nat) (A : VA) (O : List Nat) (d : Int) (w : World) (hp : w.cell? ⟨pb, 0, none⟩ = some (.pointer (some ⟨vb, 0, none⟩))) (h : Vol w vb A O) (hs : ∀ k, A.stand.getD k 0 = 0) :
    Calls Tryz.prog 20 #[.pointer (some ⟨pb, 0, none⟩), .int .i64 d] w fun e w' => e = .returned (.tuple #[.int .i64 0, .int .i64 (if 0 ≤ d ∧ d < (A.stand.length : Int) then 0 else 1)]) ∧ w' = w := by
  have HC := hide (member_any vb A O d w h hs)
  clear h
  generalize (if 0 ≤ d ∧ d < (A.stand.length : Int) then (0 : Int) else 1) = q at *
  go_enter Tryz.func20, Tryz.ntmps20
  go_wp2_with (go_at_call 44; refine (unhide HC).mono ?_; rintro e w1 ⟨rfl, hw1⟩; obtain rfl := hw1)
  refine bodyPost_ret (results_tmp2 rfl _ _ _) rfl ⟨rfl, rfl⟩
theorem between_any (x l h : Int) (w : World) :
    Calls Tryz.prog 37 #[.int .i64 x, .int .i64 l, .int .i64 h] w fun e w' => e = .returned (.bool (decide (l ≤ x ∧ x ≤ h))) ∧ w' = w := by
  by_cases h1 : l ≤ x
  · by_cases h2 : x ≤ h
    · go_enter Tryz.func37, Tryz.ntmps37
      go_wp2
      go_ret
      exact ⟨by simp [h1, h2], rfl⟩
    · go_enter Tryz.func37, Tryz.ntmps37
      go_wp2
      go_ret
      exact ⟨by simp <;> omega, rfl⟩
  · go_enter Tryz.func37, Tryz.ntmps37
    go_wp2
    go_ret
    exact ⟨by simp <;> omega, rfl⟩
set_option maxRecDepth 100000 in
set_option maxHeartbeats 2000000 in
theorem platOpen_no (d s : Int) (fr : Bool) (w : World) (hno : ¬ ((4 ≤ d ∧ d ≤ 8) ∧ (1 ≤ s ∧ s ≤ 6))) :
    Calls Tryz.prog 15 #[.int .i64 d, .int .i64 s, .bool fr] w fun e w' => e = .returned (.tuple #[.pointer none, .int .i64 1]) ∧ w' = w := by
  by_cases hd : 4 ≤ d ∧ d ≤ 8
  · have hs : ¬ (1 ≤ s ∧ s ≤ 6) := fun hh => hno ⟨hd, hh⟩
    have H1 := hide (between_any d 4 8 w)
    rw [decide_eq_true hd] at H1
    have H2 := hide (between_any s 1 6 w)
    rw [decide_eq_false hs] at H2
    clear hno hd hs
    go_enter Tryz.func15, Tryz.ntmps15
    go_wp2_with fail
    refine (unhide H1).mono ?_
    rintro e w1 ⟨rfl, hw1⟩
    obtain rfl := hw1
    go_wp2_with fail
    refine (unhide H2).mono ?_
    rintro e w2 ⟨rfl, hw2⟩
    obtain rfl := hw2
    go_wp2
    refine bodyPost_ret (results_tmp2 rfl _ _ _) rfl ⟨rfl, rfl⟩
  · have H1 := hide (between_any d 4 8 w)
    rw [decide_eq_false hd] at H1
    clear hno hd
    go_enter Tryz.func15, Tryz.ntmps15
    go_wp2_with fail
    refine (unhide H1).mono ?_
    rintro e w1 ⟨rfl, hw1⟩
    obtain rfl := hw1
    go_wp2
    refine bodyPost_ret (results_tmp2 rfl _ _ _) rfl ⟨rfl, rfl⟩

end Go.Proofs.YtdcinlkkjbclmaaGreat

/- Any request at a volume at rest: it is taken just if it may be. -/
namespace Go.Proofs.YtdcinlkkjbclmaaGreat
open Go.RowKit

/-- what is left behind a request: all disks are current, no command is told -/
def LeftV (w : World) (O : List Nat) (w' : World) (vb D : Nat) : Prop := ∃ A' O', Vol w' vb A' O' ∧ A'.stand = List.replicate D 0 ∧ A'.told = [] ∧ Chg (fun b => b ∈ O) w w' ∧ ∀ b ∈ O', b ∈ O ∨ w.heap.size ≤ b

theorem run_flush (vb D : Nat) (A : VA) (O : List Nat) (n b : Int) (bs : List Value) (w : World) (h : Vol w vb A O) (hb : Busy A) (ha : A.at' = .nilIface) (hw : A.reqs = [.int .i64 n :: .int .i64 3 :: .int .i64 b :: bs]) (hr : A.ress.length ≤ 90000) (hs : A.stand = List.replicate D 0) :
    Calls Tryz.prog 78 #[.pointer (some ⟨vb, 0, none⟩)] w fun e w' => e = .returned (.tuple #[]) ∧ LeftV w O w' vb D := by
  refine run_byF vb (fun k w' => (k = 2 ∧ w' = w) ∨ (k = 1 ∧ ∃ A' O' tb, Vol w' vb A' O' ∧ A'.stand = List.replicate D 0 ∧ Busy A' ∧ A'.reqs = [] ∧ A'.at' = flsV tb ∧ w'.cell? ⟨tb, 2, none⟩ = some .nilFunc ∧ Chg (fun b => b ∈ O) w w' ∧ ∀ b ∈ O', b ∈ O ∨ w.heap.size ≤ b) ∨ (k = 0 ∧ LeftV w O w' vb D ∧ ∃ A' O', Vol w' vb A' O' ∧ Idle A')) _ (fun k w' hk => ?_) 2 (by omega) w (Or.inl ⟨rfl, rfl⟩)
  rcases hk with ⟨rfl, rfl⟩ | ⟨rfl, A', O', tb, v', e1, e2, e3, e4, e5, c', o'⟩ | ⟨rfl, hl, A', O', v', hi⟩
  · refine Or.inr (Or.inr (Or.inr ⟨A, O, 1, by omega, h, hb, ha, by rw [hw]; simp, ?_⟩))
    refine (choose_by vb A O (fun v w1 => ∃ tb, v = flsV tb ∧ w'.heap.size ≤ tb ∧ FlushT w1 tb vb) w' h (fun w1 O1 hv1 hsz => (firstFlush_any vb { A with first := true } O1 n b bs [] w1 hv1 hw).mono (fun e w2 hh => by
      obtain ⟨tb, rfl, e1, e2, e3⟩ := hh
      exact ⟨_, rfl, ⟨tb, rfl, by omega, e2⟩, e3⟩))).mono ?_
    rintro e w1 ⟨v, O1, rfl, v1, c1, o1, ⟨tb, rfl, htb, ⟨cs, k1, k2, k3⟩⟩, hlt1⟩
    have hlt0 : tb < w1.heap.size := k1.lt
    have ht1 : tb ∉ O1 := fun ho => by have := hlt1 _ ho; omega
    obtain ⟨O2, v2, c2, o2⟩ := vol_set (A' := { A with first := true, at' := flsV tb }) v1 3 (flsV tb) (fun G => by unfold volC; simp) rfl rfl rfl rfl rfl
    have ht2 : tb ∉ O2 := fun ho => by rcases o2 _ ho with q | q; exact ht1 q; omega
    have kk := k1.chg c2 ht1
    have hs1 := c1.size
    have hs2 := c2.size
    refine ⟨_, rfl, start_f vb tb _ O1 _ w1 v1 ((flushBegin_any tb vb { A with first := true, at' := flsV tb } O2 n (.int .i64 3 :: .int .i64 b :: bs) [] _ v2 hw hr ((kk.cell 0).trans k2)).mono ?_)⟩
    rintro e w3 ⟨rfl, O3, v3, c3, o3⟩
    refine ⟨rfl, Or.inr (Or.inl ⟨rfl, _, O3, tb, v3, hs, ⟨hb.1, hb.2.1, hb.2.2⟩, rfl, rfl, ((kk.chg c3 ht2).cell 2).trans k3, ?_, fun k hk => ?_⟩)⟩
    · exact (c1.trans c2 o1).trans c3 (fun k hk => by
        rcases o2 k hk with q | q
        · exact o1 k q
        · exact Or.inr (by omega))
    · rcases o3 k hk with q | q
      · rcases o2 k q with q | q
        · exact o1 k q
        · exact Or.inr (by omega)
      · exact Or.inr (by omega)
  · obtain ⟨O2, v2, c2, o2⟩ := vol_set (A' := { A' with at' := .nilIface }) v' 3 .nilIface (fun G => by unfold volC; simp) rfl rfl rfl rfl rfl
    have hs1 := c'.size
    refine Or.inr (Or.inr (Or.inl ⟨A', O', tb, 0, by omega, v', e2, e4, goOn_nil tb w' e5, Or.inr (Or.inr ⟨rfl, ⟨_, O2, v2, e1, e2.2.2, c'.trans c2 o', fun k hk => ?_⟩, _, O2, v2, Or.inr (Or.inr (Or.inr ⟨e2.1, e2.2.1, e2.2.2, rfl, e3⟩))⟩)⟩))
    rcases o2 k hk with q | q
    · exact o' k q
    · exact Or.inr (by omega)
  · exact Or.inl ⟨A', O', v', hi, hl⟩

set_option maxHeartbeats 1000000 in
theorem submit_yes (D S tb0 lc vb : Nat) (O : List Nat) (k n : Int) (da : Option Addr) (dn dc : Nat) (cs : List Value) (w : World) (h4 : 4 ≤ D) (h8 : D ≤ 8) (hS6 : S ≤ 6) (hv : Vol w vb (readyA D S tb0 lc) O) (hm : mayB (readyA D S tb0 lc) k n dn = true)
    (hdl : cs.length = dn) (hdo : ∀ v ∈ cs, v.oneCell' = true) (hda : ∀ j v, cs[j]? = some v → ∃ g o, da = some ⟨g, o, none⟩ ∧ w.cell? ⟨g, o + j, none⟩ = some v ∧ g ∉ O) :
    Calls Tryz.prog 41 #[.pointer (some ⟨vb, 0, none⟩), .agg #[.int .i64 k, .int .i64 n, .slice da dn dc]] w fun e w' => e = .returned (.tuple #[.int .i64 1, .int .i64 0]) ∧ LeftV w O w' vb D := by
  have hlen : (readyA D S tb0 lc).stand.length = D := List.length_replicate
  unfold mayB at hm
  simp only [Bool.and_eq_true, decide_eq_true_eq] at hm
  obtain ⟨m1, m2, m3⟩ := hm
  have m4 : mayB (readyA D S tb0 lc) k n dn = true := by unfold mayB; simp only [Bool.and_eq_true, decide_eq_true_eq]; exact ⟨m1, m2, m3⟩
  refine (submit_by vb _ O k n da dn dc cs (fun w' => LeftV w O w' vb D) w hv (show (1 : Int) ≠ 2 by decide) (by simp [readyA, newA]) (by simp [readyA, newA]) hdl (by rw [m3]; unfold mayD; split; exact Or.inr rfl; exact Or.inl rfl) hdo hda (fun w1 hw1 => by
    have := may_any vb _ O k n da dn dc w1 (hv.new hw1) (by rw [hlen]; exact h4) (by rw [hlen]; exact h8) hS6
    rw [m4] at this
    exact this) (fun w1 O1 bs hbs v1 c1 o1 => ?_)).mono (fun e w' h => h)
  have hs1 := c1.size
  have fin : ∀ w', Began w1 O1 w' vb { readyA D S tb0 lc with lastR := 0 + 1, reqs := [] ++ [.int .i64 ((0 : Nat) + 1 : Int) :: .int .i64 k :: .int .i64 n :: bs] } → LeftV w O w' vb D ∧ Chg (fun b => b ∈ O1) w1 w' := fun w' hb => by
    obtain ⟨A', O', v', e1, e2, _, _, c', o'⟩ := hb
    refine ⟨⟨A', O', v', e1, e2, c1.trans c' o1, fun b hb' => ?_⟩, c'⟩
    rcases o' b hb' with q | q
    · exact o1 b q
    · exact Or.inr (by omega)
  have busy : Busy { readyA D S tb0 lc with lastR := 0 + 1, reqs := [] ++ [.int .i64 ((0 : Nat) + 1 : Int) :: .int .i64 k :: .int .i64 n :: bs] } := ⟨(show (1 : Int) ≠ 2 by decide), rfl, rfl⟩
  have hblk : (k = 1 ∨ k = 2) → n ≤ 6 * ((D : Int) - 2) - 1 := fun hk => by
    have hN : mayN (readyA D S tb0 lc) k = (S : Int) * ((D : Int) - 2) := by
      unfold mayN
      rw [hlen]
      rcases hk with rfl | rfl <;> rfl
    rw [hN] at m2
    have : (S : Int) * ((D : Int) - 2) ≤ 6 * ((D : Int) - 2) := Int.mul_le_mul_of_nonneg_right (by omega) (by omega)
    omega
  by_cases k1 : k = 1
  · subst k1
    exact (run_began vb _ O1 w1 v1 busy rfl (by simp) (readTurn vb D _ O1 _ n bs [] w1 v1 rfl rfl h4 h8 m1 (hblk (Or.inl rfl)) (by simp [readyA, newA]))).mono (fun e w' hh => ⟨hh.1, fin w' hh.2⟩)
  by_cases k2 : k = 2
  · subst k2
    exact (run_began vb _ O1 w1 v1 busy rfl (by simp) (write2Turn vb D _ O1 _ n bs [] w1 v1 rfl rfl h4 h8 m1 (hblk (Or.inr rfl)) hbs (by simp [readyA, newA]))).mono (fun e w' hh => ⟨hh.1, fin w' hh.2⟩)
  by_cases k3 : k = 3
  · subst k3
    refine (run_flush vb D _ O1 _ n bs w1 v1 busy rfl rfl (by simp [readyA, newA]) rfl).mono (fun e w' hh => ⟨hh.1, ?_⟩)
    obtain ⟨A', O', v', e1, e2, c', o'⟩ := hh.2
    refine ⟨⟨A', O', v', e1, e2, c1.trans c' o1, fun b hb' => ?_⟩, c'⟩
    rcases o' b hb' with q | q
    · exact o1 b q
    · exact Or.inr (by omega)
  by_cases k4 : k = 4
  · subst k4
    have : n ≤ 5 := by
      have hN : mayN (readyA D S tb0 lc) 4 = (S : Int) := rfl
      rw [hN] at m2
      omega
    exact (run_began vb _ O1 w1 v1 busy rfl (by simp) (scrubTurn vb D _ O1 _ n bs [] w1 v1 rfl rfl h4 h8 m1 this (by simp [readyA, newA]))).mono (fun e w' hh => ⟨hh.1, fin w' hh.2⟩)
  exfalso
  have hN : mayN (readyA D S tb0 lc) k = 0 := by unfold mayN; rw [if_neg k1, if_neg k2, if_neg k3, if_neg k4]
  omega

end Go.Proofs.YtdcinlkkjbclmaaGreat
