/- What run does when the labels of new disks are written, and when they are safe. -/
import Derived.Test.YtdcinlkkjbclmaaGreatARunF
namespace Go.Proofs.YtdcinlkkjbclmaaGreat
open Go.RowKit

def nxLabels (tb : Nat) : Value := .func (.func 162) #[.pointer (some ⟨tb, 0, none⟩)] #[]
def nxReady (tb : Nat) : Value := .func (.func 168) #[.pointer (some ⟨tb, 0, none⟩)] #[]
/-- a volume that is being opened, lc commands told -/
def opA (D S tb lc : Nat) : VA := { newA D S tb with lastC := lc }
def barriers (D : Nat) : List Cmd := (List.range D).map (fun (k : Nat) => (⟨0, 3, (k : Int), 0, .slice none 0 0⟩ : Cmd))
def readyA (D S tb lc : Nat) : VA := { newA D S tb with lastC := lc, state := 1, at' := .nilIface }

theorem run_labels (D S tb hb vb lc : Nat) (O : List Nat) (w : World) (hD : 0 < D) (hD8 : D ≤ 8) (hv : Vol w vb (opA D S tb lc) O) (ht : OpenT w tb hb vb (nxLabels tb) true) (hto : tb ∉ O) (hho : hb ∉ O) :
    Calls Tryz.prog 78 #[.pointer (some ⟨vb, 0, none⟩)] w fun e w' => e = .returned (.tuple #[]) ∧ ∃ A' O', Vol w' vb A' O' ∧ Chg (fun b => b ∈ O ∨ b = tb) w w' ∧ (∀ b ∈ O', b ∈ O ∨ w.heap.size ≤ b) ∧ (A' = { opA D S tb lc with wait := barriers D } ∧ OpenT w' tb hb vb (nxReady tb) true) := by
  have htl : tb < w.heap.size := block_lt_of_cell ht.c0
  refine run_by vb (fun k w' => (k = 1 ∧ w' = w) ∨ (k = 0 ∧ ∃ A' O', Vol w' vb A' O' ∧ Chg (fun b => b ∈ O ∨ b = tb) w w' ∧ (∀ b ∈ O', b ∈ O ∨ w.heap.size ≤ b) ∧ (A' = { opA D S tb lc with wait := barriers D } ∧ OpenT w' tb hb vb (nxReady tb) true))) _ (fun k w' hk => ?_) 1 (by omega) w (Or.inl ⟨rfl, rfl⟩)
  rcases hk with ⟨rfl, rfl⟩ | ⟨rfl, A', O', v', c', o', hA, ht'⟩
  · refine Or.inr (Or.inl ⟨opA D S tb lc, O, tb, 0, by omega, hv, ⟨(show (0 : Int) ≠ 2 by decide), rfl, rfl⟩, rfl, ?_⟩)
    have ht0 := ht.next .nilFunc
    have hc0 : Chg (fun b => b = tb) w' (w'.setCell ⟨tb, 2, none⟩ .nilFunc) := Chg.setCell (X := fun b => b = tb) (Chg.refl _ w') ⟨tb, 2, none⟩ _ (Or.inl rfl)
    have hv0 := hv.chg hc0 (fun b hb' e => hto (e ▸ hb'))
    have hlen : (opA D S tb lc).stand.length = D := List.length_replicate
    refine goOn_next tb _ _ w' ht.c2.1 ht.c2.2 enters_makeLabelsSafe ((makeLabelsSafe_any tb vb _ O .nilFunc _ hv0 hto ht0.c0 ht0.c2.1 ht0.c2.2 (by rw [hlen]; exact hD8) (by simp [opA, newA])).mono ?_)
    rintro e w1 ⟨rfl, w2, ⟨O2, v2, c2, o2⟩, rfl⟩
    have hto2 : tb ∉ O2 := fun ho => by rcases o2 _ ho with q | q; exact hto q; (have := hc0.size; omega)
    have ht2 := (ht0.chg c2 hto hho).next (nxReady tb)
    refine ⟨rfl, Or.inr ⟨rfl, _, O2, v2.chg (X := fun b => b = tb) (Chg.setCell (X := fun b => b = tb) (Chg.refl _ w2) ⟨tb, 2, none⟩ _ (Or.inl rfl)) (fun b hb' e => hto2 (e ▸ hb')), ?_, fun b hb' => ?_, ?_, ht2⟩⟩
    · exact Chg.setCell (X := fun b => b ∈ O ∨ b = tb) ((hc0.mono (fun k _ hk => Or.inr hk)).trans c2 (fun k hk => Or.inl (Or.inl hk))) ⟨tb, 2, none⟩ _ (Or.inl (Or.inr rfl))
    · have := hc0.size
      rcases o2 b hb' with q | q
      · exact Or.inl q
      · exact Or.inr (by omega)
    · rw [safe_all _ _ (fun d _ => getD_zero D d)]
      show ({ opA D S tb lc with wait := [] ++ (cur (List.replicate D 0)).map _ } : VA) = _
      rw [cur_all]
      rfl
  · refine Or.inl ⟨A', O', v', Or.inr (Or.inl ⟨by rw [hA]; exact (show (0 : Int) ≠ 2 by decide), ?_⟩), ⟨A', O', v', c', o', hA, ht'⟩⟩
    rw [hA]
    intro e
    have := congrArg List.length e
    simp [barriers] at this
    omega

theorem run_ready (D S tb hb vb lc : Nat) (O : List Nat) (w : World) (hv : Vol w vb (opA D S tb lc) O) (ht : OpenT w tb hb vb (nxReady tb) true) (hto : tb ∉ O) :
    Calls Tryz.prog 78 #[.pointer (some ⟨vb, 0, none⟩)] w fun e w' => e = .returned (.tuple #[]) ∧ ∃ A' O', Vol w' vb A' O' ∧ Chg (fun b => b ∈ O ∨ b = tb) w w' ∧ (∀ b ∈ O', b ∈ O ∨ w.heap.size ≤ b) ∧ A' = readyA D S tb lc := by
  have htl : tb < w.heap.size := block_lt_of_cell ht.c0
  refine run_by vb (fun k w' => (k = 2 ∧ w' = w) ∨ (k = 1 ∧ ∃ O', Vol w' vb { opA D S tb lc with state := 1 } O' ∧ Chg (fun b => b ∈ O ∨ b = tb) w w' ∧ (∀ b ∈ O', b ∈ O ∨ w.heap.size ≤ b) ∧ w'.cell? ⟨tb, 2, none⟩ = some .nilFunc) ∨ (k = 0 ∧ ∃ A' O', Vol w' vb A' O' ∧ Chg (fun b => b ∈ O ∨ b = tb) w w' ∧ (∀ b ∈ O', b ∈ O ∨ w.heap.size ≤ b) ∧ A' = readyA D S tb lc)) _ (fun k w' hk => ?_) 2 (by omega) w (Or.inl ⟨rfl, rfl⟩)
  rcases hk with ⟨rfl, rfl⟩ | ⟨rfl, O1, v1, c1, o1, hn1⟩ | ⟨rfl, A', O', v', c', o', hA⟩
  · refine Or.inr (Or.inl ⟨opA D S tb lc, O, tb, 1, by omega, hv, ⟨(show (0 : Int) ≠ 2 by decide), rfl, rfl⟩, rfl, ?_⟩)
    have ht0 := ht.next .nilFunc
    have hc0 : Chg (fun b => b = tb) w' (w'.setCell ⟨tb, 2, none⟩ .nilFunc) := Chg.setCell (X := fun b => b = tb) (Chg.refl _ w') ⟨tb, 2, none⟩ _ (Or.inl rfl)
    have hv0 := hv.chg hc0 (fun b hb' e => hto (e ▸ hb'))
    have hs0 := hc0.size
    refine goOn_next tb _ _ w' ht.c2.1 ht.c2.2 enters_ready ((ready_any tb vb _ O _ hv0 ht0.c0).mono ?_)
    rintro e w1 ⟨rfl, O2, v2, c2, o2⟩
    refine ⟨rfl, Or.inr (Or.inl ⟨rfl, O2, v2, (hc0.mono (fun k _ hk => Or.inr hk)).trans c2 (fun k hk => Or.inl (Or.inl hk)), fun b hb' => ?_, ?_⟩)⟩
    · rcases o2 b hb' with q | q
      · exact Or.inl q
      · exact Or.inr (by omega)
    · exact (World.cell?_of_block (a := ⟨tb, 2, none⟩) (c2.block tb (by omega) hto)).trans ht0.c2.1
  · refine Or.inr (Or.inr (Or.inl ⟨_, O1, tb, 0, by omega, v1, ⟨(show (1 : Int) ≠ 2 by decide), rfl, rfl⟩, rfl, goOn_nil tb w' hn1, Or.inr (Or.inr ⟨rfl, ?_⟩)⟩))
    obtain ⟨O2, v2, c2, o2⟩ := vol_set (A' := readyA D S tb lc) v1 3 .nilIface (fun G => by unfold volC; simp [readyA, opA, newA]) rfl rfl rfl rfl rfl
    refine ⟨_, O2, v2, c1.trans c2 (fun k hk => ?_), fun b hb' => ?_, rfl⟩
    · rcases o1 k hk with q | q
      · exact Or.inl (Or.inl q)
      · exact Or.inr q
    · have := c1.size
      rcases o2 b hb' with q | q
      · exact o1 b q
      · exact Or.inr (by omega)
  · refine Or.inl ⟨A', O', v', Or.inr (Or.inr (Or.inr ?_)), ⟨A', O', v', c', o', hA⟩⟩
    rw [hA]
    exact ⟨(show (1 : Int) ≠ 2 by decide), rfl, rfl, rfl, rfl⟩

end Go.Proofs.YtdcinlkkjbclmaaGreat

/- Package platter hands on to package volume. -/
namespace Go.Proofs.YtdcinlkkjbclmaaGreat
open Go.RowKit

theorem wrapCommands (pb vb : Nat) (R : Value → World → Prop) (w : World) (hp : w.cell? ⟨pb, 0, none⟩ = some (.pointer (some ⟨vb, 0, none⟩))) (hc : Calls Tryz.prog 84 #[.pointer (some ⟨vb, 0, none⟩)] w fun e w' => ∃ v, e = .returned v ∧ R v w') :
    Calls Tryz.prog 47 #[.pointer (some ⟨pb, 0, none⟩)] w fun e w' => ∃ v, e = .returned v ∧ R v w' := by
  have HC := hide hc
  clear hc
  go_enter Tryz.func47, Tryz.ntmps47
  go_wp2_with (go_at_call 84; refine (unhide HC).mono ?_; rintro e w1 ⟨v, rfl, hr⟩; have HR := hide hr; clear hr)
  go_ret
  exact ⟨v, rfl, unhide HR⟩
theorem wrapResults (pb vb : Nat) (R : Value → World → Prop) (w : World) (hp : w.cell? ⟨pb, 0, none⟩ = some (.pointer (some ⟨vb, 0, none⟩))) (hc : Calls Tryz.prog 86 #[.pointer (some ⟨vb, 0, none⟩)] w fun e w' => ∃ v, e = .returned v ∧ R v w') :
    Calls Tryz.prog 57 #[.pointer (some ⟨pb, 0, none⟩)] w fun e w' => ∃ v, e = .returned v ∧ R v w' := by
  have HC := hide hc
  clear hc
  go_enter Tryz.func57, Tryz.ntmps57
  go_wp2_with (go_at_call 86; refine (unhide HC).mono ?_; rintro e w1 ⟨v, rfl, hr⟩; have HR := hide hr; clear hr)
  go_ret
  exact ⟨v, rfl, unhide HR⟩
theorem wrapDone (pb vb : Nat) (n : Int) (ok : Bool) (dv : Value) (r : Int) (R : World → Prop) (w : World) (hp : w.cell? ⟨pb, 0, none⟩ = some (.pointer (some ⟨vb, 0, none⟩))) (hc : Calls Tryz.prog 42 #[.pointer (some ⟨vb, 0, none⟩), .int .i64 n, .bool ok, dv] w fun e w' => e = .returned (.int .i64 r) ∧ R w') :
    Calls Tryz.prog 18 #[.pointer (some ⟨pb, 0, none⟩), .int .i64 n, .bool ok, dv] w fun e w' => e = .returned (.int .i64 r) ∧ R w' := by
  have HC := hide hc
  clear hc
  go_enter Tryz.func18, Tryz.ntmps18
  go_wp2_with (go_at_call 42; refine (unhide HC).mono ?_; rintro e w1 ⟨rfl, hr⟩; have HR := hide hr; clear hr)
  go_ret
  exact ⟨rfl, unhide HR⟩
theorem wrapFail (pb vb : Nat) (n : Int) (r : Int) (R : World → Prop) (w : World) (hp : w.cell? ⟨pb, 0, none⟩ = some (.pointer (some ⟨vb, 0, none⟩))) (hc : Calls Tryz.prog 115 #[.pointer (some ⟨vb, 0, none⟩), .int .i64 n] w fun e w' => e = .returned (.int .i64 r) ∧ R w') :
    Calls Tryz.prog 90 #[.pointer (some ⟨pb, 0, none⟩), .int .i64 n] w fun e w' => e = .returned (.int .i64 r) ∧ R w' := by
  have HC := hide hc
  clear hc
  go_enter Tryz.func90, Tryz.ntmps90
  go_wp2_with (go_at_call 115; refine (unhide HC).mono ?_; rintro e w1 ⟨rfl, hr⟩; have HR := hide hr; clear hr)
  go_ret
  exact ⟨rfl, unhide HR⟩
theorem wrapState (pb vb : Nat) (A : VA) (O : List Nat) (w : World) (hp : w.cell? ⟨pb, 0, none⟩ = some (.pointer (some ⟨vb, 0, none⟩))) (h : Vol w vb A O) :
    Calls Tryz.prog 39 #[.pointer (some ⟨pb, 0, none⟩)] w fun e w' => e = .returned (.int .i64 A.state) ∧ w' = w := by
  have HC := hide (state_any vb A O w h)
  clear h
  go_enter Tryz.func39, Tryz.ntmps39
  go_wp2_with (go_at_call 73; refine (unhide HC).mono ?_; rintro e w1 ⟨rfl, hw1⟩; obtain rfl := hw1)
  go_ret
  exact ⟨rfl, rfl⟩
set_option maxRecDepth 100000 in
set_option maxHeartbeats 2000000 in
theorem wrapSubmit (pb vb : Nat) (O : List Nat) (k n : Int) (da : Option Addr) (dn dc : Nat) (r0 r1 : Int) (R : World → Prop) (w : World) (hp : w.cell? ⟨pb, 0, none⟩ = some (.pointer (some ⟨vb, 0, none⟩))) (hpo : pb ∉ O) (hlt : ∀ b ∈ O, b < w.heap.size)
    (hc : ∀ w', Below w.heap.size w w' → Calls Tryz.prog 41 #[.pointer (some ⟨vb, 0, none⟩), .agg #[.int .i64 k, .int .i64 n, .slice da dn dc]] w' fun e w'' => e = .returned (.tuple #[.int .i64 r0, .int .i64 r1]) ∧ R w'' ∧ Chg (fun b => b ∈ O) w' w'') :
    Calls Tryz.prog 17 #[.pointer (some ⟨pb, 0, none⟩), .agg #[.int .i64 k, .int .i64 n, .slice da dn dc]] w fun e w' => e = .returned (.tuple #[.int .i64 r0, .int .i64 r1]) ∧ R w' := by
  have hpl : pb < w.heap.size := block_lt_of_cell hp
  have hb0 := (Below.refl w.heap.size w).alloc (Nat.le_refl _) (.cells #[.int .i64 k, .int .i64 n, .slice da dn dc] 38)
  have hk0 := Blk.new w #[.int .i64 k, .int .i64 n, .slice da dn dc] 38
  have hs0 : (w.alloc (.cells #[.int .i64 k, .int .i64 n, .slice da dn dc] 38)).heap.size = w.heap.size + 1 := by simp
  have HB0 := hide hb0
  have HK0 := hide hk0
  have HS0 := hide hs0
  have HC := hide hc
  have hwo : w.heap.size ∉ O := fun ho => by have := hlt _ ho; omega
  clear hb0 hk0 hs0 hc hlt
  go_enter Tryz.func17, Tryz.ntmps17
  go_wp2_with fail
  generalize w.alloc (.cells #[.int .i64 k, .int .i64 n, .slice da dn dc] 38) = w0 at *
  have hs0 := unhide HS0
  have t0 : w0.drew.cell? ⟨pb, 0, none⟩ = some (.pointer (some ⟨vb, 0, none⟩)) := ((unhide HB0).drew.cell (by exact hpl)).trans hp
  have t1 : w0.drew.cell? ⟨w.heap.size, 0, none⟩ = some (.int .i64 k) := (unhide HK0).cell 0
  have t2 : w0.drew.cell? ⟨w.heap.size, 1, none⟩ = some (.int .i64 n) := (unhide HK0).cell 1
  have t3 : w0.drew.cell? ⟨w.heap.size, 2, none⟩ = some (.slice da dn dc) := (unhide HK0).cell 2
  go_region_held3 (fun w' => w'.cell? ⟨pb, 0, none⟩ = some (.pointer (some ⟨vb, 0, none⟩)) ∧ w'.cell? ⟨w.heap.size, 0, none⟩ = some (.int .i64 k) ∧ w'.cell? ⟨w.heap.size, 1, none⟩ = some (.int .i64 n) ∧ w'.cell? ⟨w.heap.size, 2, none⟩ = some (.slice da dn dc)) (first | exact ⟨t0, t1, t2, t3⟩ | exact ⟨q0, q1, q2, q3⟩)
    (first | (go_at_call 41; refine (unhide HC _ (unhide HB0).drew).mono ?_; rintro e w3 ⟨rfl, hR, hch⟩; have q0 : w3.cell? ⟨pb, 0, none⟩ = some (.pointer (some ⟨vb, 0, none⟩)) := (World.cell?_of_block (a := ⟨pb, 0, none⟩) (hch.block pb (by show pb < w0.heap.size; omega) hpo)).trans t0; have q1 : w3.cell? ⟨w.heap.size, 0, none⟩ = some (.int .i64 k) := (World.cell?_of_block (a := ⟨w.heap.size, 0, none⟩) (hch.block w.heap.size (by show w.heap.size < w0.heap.size; omega) hwo)).trans t1; have q2 : w3.cell? ⟨w.heap.size, 1, none⟩ = some (.int .i64 n) := (World.cell?_of_block (a := ⟨w.heap.size, 1, none⟩) (hch.block w.heap.size (by show w.heap.size < w0.heap.size; omega) hwo)).trans t2; have q3 : w3.cell? ⟨w.heap.size, 2, none⟩ = some (.slice da dn dc) := (World.cell?_of_block (a := ⟨w.heap.size, 2, none⟩) (hch.block w.heap.size (by show w.heap.size < w0.heap.size; omega) hwo)).trans t3; have HR := hide hR; clear hR hch))
  clear t0 t1 t2 t3 q0 q1 q2 q3
  go_wp2
  refine bodyPost_ret (results_tmp2 rfl _ _ _) rfl ⟨rfl, unhide HR⟩
theorem between_in (x l h : Int) (w : World) (h1 : l ≤ x) (h2 : x ≤ h) :
    Calls Tryz.prog 37 #[.int .i64 x, .int .i64 l, .int .i64 h] w fun e w' => e = .returned (.bool true) ∧ w' = w := by
  go_enter Tryz.func37, Tryz.ntmps37
  go_wp2
  go_ret
  exact ⟨rfl, rfl⟩
set_option maxRecDepth 100000 in
set_option maxHeartbeats 2000000 in
theorem platOpen_any (d s : Nat) (fr : Bool) (w : World) (h1 : 4 ≤ d) (h2 : d ≤ 8) (h3 : 1 ≤ s) (h4 : s ≤ 6) :
    Calls Tryz.prog 15 #[.int .i64 (d : Int), .int .i64 (s : Int), .bool fr] w fun e w' => ∃ pb vb tb hb A O nx w1, e = .returned (.tuple #[.pointer (some ⟨pb, 0, none⟩), .int .i64 0]) ∧ Opened w w1 d s fr vb tb hb A O nx ∧ w' = w1.alloc (.cells #[.pointer (some ⟨vb, 0, none⟩)] 81) ∧ pb = w1.heap.size := by
  have i1 : (4 : Int) ≤ (d : Int) := by omega
  have i2 : (d : Int) ≤ 8 := by omega
  have i3 : (1 : Int) ≤ (s : Int) := by omega
  have i4 : (s : Int) ≤ 6 := by omega
  have HO := hide (volOpen_any d s fr w h1 h2)
  go_enter Tryz.func15, Tryz.ntmps15
  go_wp2_with fail
  refine (between_in (d : Int) 4 8 _ i1 i2).mono ?_
  rintro e wx ⟨rfl, hwx⟩
  obtain rfl := hwx
  go_wp2_with fail
  refine (between_in (s : Int) 1 6 _ i3 i4).mono ?_
  rintro e wx ⟨rfl, hwx⟩
  obtain rfl := hwx
  go_wp2_with fail
  refine (unhide HO).mono ?_
  rintro e w1 ⟨vb, tb, hb, A, O, nx, rfl, hop⟩
  have HOP := hide hop
  clear hop HO
  go_wp2
  refine bodyPost_ret (results_tmp2 rfl _ _ _) rfl ⟨_, vb, tb, hb, A, O, nx, w1, rfl, unhide HOP, rfl, rfl⟩

end Go.Proofs.YtdcinlkkjbclmaaGreat
