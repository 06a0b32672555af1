/- Package platter hands on to package volume. -/
import Derived.Test.YtdcinlkkjbclmabGreatRDef
namespace Go.Proofs.YtdcinlkkjbclmabGreat
open Go.RowKit

theorem wrapCommands (pb vb : Nat) (R : Value → World → Prop) (w : World) (hp : w.cell? ⟨pb, 0, none⟩ = some (.pointer (some ⟨vb, 0, none⟩))) (hc : Calls Tryz.prog 30 #[.pointer (some ⟨vb, 0, none⟩)] w fun e w' => ∃ v, e = .returned v ∧ R v w') :
    Calls Tryz.prog 19 #[.pointer (some ⟨pb, 0, none⟩)] w fun e w' => ∃ v, e = .returned v ∧ R v w' := by
  have HC := hide hc
  clear hc
  go_enter Tryz.func19, Tryz.ntmps19
  go_wp2_with (go_at_call 30; refine (unhide HC).mono ?_; rintro e w1 ⟨v, rfl, hr⟩; have HR := hide hr; clear hr)
  go_ret
  exact ⟨v, rfl, unhide HR⟩
theorem wrapResults (pb vb : Nat) (R : Value → World → Prop) (w : World) (hp : w.cell? ⟨pb, 0, none⟩ = some (.pointer (some ⟨vb, 0, none⟩))) (hc : Calls Tryz.prog 29 #[.pointer (some ⟨vb, 0, none⟩)] w fun e w' => ∃ v, e = .returned v ∧ R v w') :
    Calls Tryz.prog 18 #[.pointer (some ⟨pb, 0, none⟩)] w fun e w' => ∃ v, e = .returned v ∧ R v w' := by
  have HC := hide hc
  clear hc
  go_enter Tryz.func18, Tryz.ntmps18
  go_wp2_with (go_at_call 29; refine (unhide HC).mono ?_; rintro e w1 ⟨v, rfl, hr⟩; have HR := hide hr; clear hr)
  go_ret
  exact ⟨v, rfl, unhide HR⟩
theorem wrapDone (pb vb : Nat) (n : Int) (ok : Bool) (dv : Value) (r : Int) (R : World → Prop) (w : World) (hp : w.cell? ⟨pb, 0, none⟩ = some (.pointer (some ⟨vb, 0, none⟩))) (hc : Calls Tryz.prog 54 #[.pointer (some ⟨vb, 0, none⟩), .int .i64 n, .bool ok, dv] w fun e w' => e = .returned (.int .i64 r) ∧ R w') :
    Calls Tryz.prog 38 #[.pointer (some ⟨pb, 0, none⟩), .int .i64 n, .bool ok, dv] w fun e w' => e = .returned (.int .i64 r) ∧ R w' := by
  have HC := hide hc
  clear hc
  go_enter Tryz.func38, Tryz.ntmps38
  go_wp2_with (go_at_call 54; refine (unhide HC).mono ?_; rintro e w1 ⟨rfl, hr⟩; have HR := hide hr; clear hr)
  go_ret
  exact ⟨rfl, unhide HR⟩
theorem wrapFail (pb vb : Nat) (n : Int) (r : Int) (R : World → Prop) (w : World) (hp : w.cell? ⟨pb, 0, none⟩ = some (.pointer (some ⟨vb, 0, none⟩))) (hc : Calls Tryz.prog 31 #[.pointer (some ⟨vb, 0, none⟩), .int .i64 n] w fun e w' => e = .returned (.int .i64 r) ∧ R w') :
    Calls Tryz.prog 21 #[.pointer (some ⟨pb, 0, none⟩), .int .i64 n] w fun e w' => e = .returned (.int .i64 r) ∧ R w' := by
  have HC := hide hc
  clear hc
  go_enter Tryz.func21, Tryz.ntmps21
  go_wp2_with (go_at_call 31; refine (unhide HC).mono ?_; rintro e w1 ⟨rfl, hr⟩; have HR := hide hr; clear hr)
  go_ret
  exact ⟨rfl, unhide HR⟩
theorem wrapState (pb vb : Nat) (A : VA) (O : List Nat) (w : World) (hp : w.cell? ⟨pb, 0, none⟩ = some (.pointer (some ⟨vb, 0, none⟩))) (h : Vol w vb A O) :
    Calls Tryz.prog 17 #[.pointer (some ⟨pb, 0, none⟩)] w fun e w' => e = .returned (.int .i64 A.state) ∧ w' = w := by
  have HC := hide (state_any vb A O w h)
  clear h
  go_enter Tryz.func17, Tryz.ntmps17
  go_wp2_with (go_at_call 28; refine (unhide HC).mono ?_; rintro e w1 ⟨rfl, hw1⟩; obtain rfl := hw1)
  go_ret
  exact ⟨rfl, rfl⟩
set_option maxRecDepth 100000 in
set_option maxHeartbeats 2000000 in
theorem wrapSubmit (pb vb : Nat) (O : List Nat) (k n : Int) (da : Option Addr) (dn dc : Nat) (r0 r1 : Int) (R : World → Prop) (w : World) (hp : w.cell? ⟨pb, 0, none⟩ = some (.pointer (some ⟨vb, 0, none⟩))) (hpo : pb ∉ O) (hlt : ∀ b ∈ O, b < w.heap.size)
    (hc : ∀ w', Below w.heap.size w w' → Calls Tryz.prog 24 #[.pointer (some ⟨vb, 0, none⟩), .agg #[.int .i64 k, .int .i64 n, .slice da dn dc]] w' fun e w'' => e = .returned (.tuple #[.int .i64 r0, .int .i64 r1]) ∧ R w'' ∧ Chg (fun b => b ∈ O) w' w'') :
    Calls Tryz.prog 14 #[.pointer (some ⟨pb, 0, none⟩), .agg #[.int .i64 k, .int .i64 n, .slice da dn dc]] w fun e w' => e = .returned (.tuple #[.int .i64 r0, .int .i64 r1]) ∧ R w' := by
  have hpl : pb < w.heap.size := block_lt_of_cell hp
  have hb0 := (Below.refl w.heap.size w).alloc (Nat.le_refl _) (.cells #[.int .i64 k, .int .i64 n, .slice da dn dc] 46)
  have hk0 := Blk.new w #[.int .i64 k, .int .i64 n, .slice da dn dc] 46
  have hs0 : (w.alloc (.cells #[.int .i64 k, .int .i64 n, .slice da dn dc] 46)).heap.size = w.heap.size + 1 := by simp
  have HB0 := hide hb0
  have HK0 := hide hk0
  have HS0 := hide hs0
  have HC := hide hc
  have hwo : w.heap.size ∉ O := fun ho => by have := hlt _ ho; omega
  clear hb0 hk0 hs0 hc hlt
  go_enter Tryz.func14, Tryz.ntmps14
  go_wp2_with fail
  generalize w.alloc (.cells #[.int .i64 k, .int .i64 n, .slice da dn dc] 46) = w0 at *
  have hs0 := unhide HS0
  have t0 : w0.drew.cell? ⟨pb, 0, none⟩ = some (.pointer (some ⟨vb, 0, none⟩)) := ((unhide HB0).drew.cell (by exact hpl)).trans hp
  have t1 : w0.drew.cell? ⟨w.heap.size, 0, none⟩ = some (.int .i64 k) := (unhide HK0).cell 0
  have t2 : w0.drew.cell? ⟨w.heap.size, 1, none⟩ = some (.int .i64 n) := (unhide HK0).cell 1
  have t3 : w0.drew.cell? ⟨w.heap.size, 2, none⟩ = some (.slice da dn dc) := (unhide HK0).cell 2
  go_region_held3 (fun w' => w'.cell? ⟨pb, 0, none⟩ = some (.pointer (some ⟨vb, 0, none⟩)) ∧ w'.cell? ⟨w.heap.size, 0, none⟩ = some (.int .i64 k) ∧ w'.cell? ⟨w.heap.size, 1, none⟩ = some (.int .i64 n) ∧ w'.cell? ⟨w.heap.size, 2, none⟩ = some (.slice da dn dc)) (first | exact ⟨t0, t1, t2, t3⟩ | exact ⟨q0, q1, q2, q3⟩)
    (first | (go_at_call 24; refine (unhide HC _ (unhide HB0).drew).mono ?_; rintro e w3 ⟨rfl, hR, hch⟩; have q0 : w3.cell? ⟨pb, 0, none⟩ = some (.pointer (some ⟨vb, 0, none⟩)) := (World.cell?_of_block (a := ⟨pb, 0, none⟩) (hch.block pb (by show pb < w0.heap.size; omega) hpo)).trans t0; have q1 : w3.cell? ⟨w.heap.size, 0, none⟩ = some (.int .i64 k) := (World.cell?_of_block (a := ⟨w.heap.size, 0, none⟩) (hch.block w.heap.size (by show w.heap.size < w0.heap.size; omega) hwo)).trans t1; have q2 : w3.cell? ⟨w.heap.size, 1, none⟩ = some (.int .i64 n) := (World.cell?_of_block (a := ⟨w.heap.size, 1, none⟩) (hch.block w.heap.size (by show w.heap.size < w0.heap.size; omega) hwo)).trans t2; have q3 : w3.cell? ⟨w.heap.size, 2, none⟩ = some (.slice da dn dc) := (World.cell?_of_block (a := ⟨w.heap.size, 2, none⟩) (hch.block w.heap.size (by show w.heap.size < w0.heap.size; omega) hwo)).trans t3; have HR := hide hR; clear hR hch))
  clear t0 t1 t2 t3 q0 q1 q2 q3
  go_wp2
  refine bodyPost_ret (results_tmp2 rfl _ _ _) rfl ⟨rfl, unhide HR⟩
theorem between_in (x l h : Int) (w : World) (h1 : l ≤ x) (h2 : x ≤ h) :
    Calls Tryz.prog 26 #[.int .i64 x, .int .i64 l, .int .i64 h] w fun e w' => e = .returned (.bool true) ∧ w' = w := by
  go_enter Tryz.func26, Tryz.ntmps26
  go_wp2
  go_ret
  exact ⟨rfl, rfl⟩
set_option maxRecDepth 100000 in
set_option maxHeartbeats 2000000 in
theorem platOpen_any (d s : Nat) (fr : Bool) (w : World) (h1 : 4 ≤ d) (h2 : d ≤ 8) (h3 : 1 ≤ s) (h4 : s ≤ 6) :
    Calls Tryz.prog 16 #[.int .i64 (d : Int), .int .i64 (s : Int), .bool fr] w fun e w' => ∃ pb vb tb hb A O nx w1, e = .returned (.tuple #[.pointer (some ⟨pb, 0, none⟩), .int .i64 0]) ∧ Opened w w1 d s fr vb tb hb A O nx ∧ w' = w1.alloc (.cells #[.pointer (some ⟨vb, 0, none⟩)] 61) ∧ pb = w1.heap.size := by
  have i1 : (4 : Int) ≤ (d : Int) := by omega
  have i2 : (d : Int) ≤ 8 := by omega
  have i3 : (1 : Int) ≤ (s : Int) := by omega
  have i4 : (s : Int) ≤ 6 := by omega
  have HO := hide (volOpen_any d s fr w h1 h2)
  go_enter Tryz.func16, Tryz.ntmps16
  go_wp2_with fail
  refine (between_in (d : Int) 4 8 _ i1 i2).mono ?_
  rintro e wx ⟨rfl, hwx⟩
  obtain rfl := hwx
  go_wp2_with fail
  refine (between_in (s : Int) 1 6 _ i3 i4).mono ?_
  rintro e wx ⟨rfl, hwx⟩
  obtain rfl := hwx
  go_wp2_with fail
  refine (unhide HO).mono ?_
  rintro e w1 ⟨vb, tb, hb, A, O, nx, rfl, hop⟩
  have HOP := hide hop
  clear hop HO
  go_wp2
  refine bodyPost_ret (results_tmp2 rfl _ _ _) rfl ⟨_, vb, tb, hb, A, O, nx, w1, rfl, unhide HOP, rfl, rfl⟩

end Go.Proofs.YtdcinlkkjbclmabGreat
