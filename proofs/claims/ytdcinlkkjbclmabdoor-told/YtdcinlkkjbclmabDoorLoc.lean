/- The contract of platter.Locate, where the columns are right by number and lengths. -/
import Derived.Test.YtdcinlkkjbclmabDoorLocate
namespace Go.Proofs.YtdcinlkkjbclmabDoor
open Go.RowKit

theorem results_tmp4 {fn : Func} {t u v x : Tmp} (h : fn.results = #[.tmp t, .tmp u, .tmp v, .tmp x]) (tmps : Array Value) (P : Program) (w : World) :
    (results fn tmps).run P w = .ok (.tuple #[tmps.getD t undef, tmps.getD u undef, tmps.getD v undef, tmps.getD x undef]) w := by
  simp [results, h]

set_option maxHeartbeats 1000000 in
theorem loc_any (v : Value) (Ls : List (List Nat)) (w : World) (hv : SlL w v Ls) (h4 : 4 ≤ Ls.length) (h8 : Ls.length ≤ 8) (hc : AreCols Ls) (ht : Tabs w) :
    Calls Tryd.prog 6 #[v] w fun e w' => ∃ (vd at' : Int) (val : List Nat), LocR Ls (Ls.length - 2) vd at' val ∧ IsCol val ∧ Below w.heap.size w w' ∧
      ((vd ≠ 1 ∧ e = .returned (.tuple #[.int .i64 vd, .int .i64 0, .slice none 0 0, .int .i64 0])) ∨
       (vd = 1 ∧ ∃ g c : Nat, e = .returned (.tuple #[.int .i64 1, .int .i64 at', .slice (some ⟨g, 0, none⟩) 16 c, .int .i64 0]) ∧ w'.ownsRow w.heap.size 5 1 (.slice (some ⟨g, 0, none⟩) 16 c) 16 (val.map B))) := by
  have hs2 := ht.size
  have hbt : btw (Ls.length : Int) 4 8 = true := by simp [btw]; omega
  obtain ⟨a, cap, hve, hd⟩ := id hv
  subst hve
  have HV := hide hv
  have HT := hide ht
  clear hd hv ht
  go_enter Tryd.func6, Tryd.ntmps6
  go_wp2_with fail
  refine (between_any _ _ _ _).mono ?_
  rintro e w1 ⟨rfl, rfl⟩
  go_wp2_with fail
  refine (take_any _ _ Ls [] _ (unhide HV) ⟨none, 0, rfl, .inl rfl⟩ (by omega) (by omega) (by simp) (fun i hi x hx => (hc.col i hi).byte x hx) (fun i hi => by rw [(hc.col i hi).len]; omega)).mono ?_
  rintro e w2 ⟨hb2, hh⟩
  rcases hh with ⟨g, rfl, hg, hcols, _⟩ | ⟨_, hno⟩
  · rw [taken_all] at hcols
    have HC := hide hcols
    have HB := hide hb2
    have HT2 := hide ((unhide HT).below hs2 hb2)
    clear hcols hb2
    go_wp2_with fail
    refine (locate_any g Ls.length Ls _ hc h4 h8 (Nat.le_refl _) (by unfold maxLen; omega) (unhide HC).lies (unhide HC).lt (unhide HT2)).mono ?_
    rintro e w3 ⟨vd, at', val, rfl, hloc, hval, hb3⟩
    have HB3 := hide ((unhide HB).trans (hb3.mono (unhide HB).size))
    have HLO := hide hloc
    clear hb3 HB HC HT HV HT2 hloc
    have hsv : (Tryd.prog.info? 41).map (·.size) = some (colA val).size := by rw [colA_size hval]; exact Tryd.colSize
    obtain ⟨st1, st2, st3, _⟩ := store_new w3 hval
    have S1 := hide st1
    have S2 := hide st2
    have S3 := hide ((unhide HB3).trans (st3.mono (unhide HB3).size))
    clear st1 st2 st3
    unfold colV
    by_cases h1 : vd = 1
    · subst h1
      go_wp2_with (first | (refine wpList_store_mid rfl 41 _ _ rfl w3.heap.size 0 (colA val) rfl rfl (unhide S1) hsv (colA_one _) ?_) | (refine wpList_load_row rfl 41 _ rfl w3.heap.size rfl 41 _ _ _ (unhide S2) Tryd.underlying41 rfl hsv ?_))
      refine (give_any val _ hval).mono ?_
      rintro e w5 ⟨g1, c1, rfl, hg1, hg1', ho1, hb5⟩
      have hs3 := (unhide S3).size
      have HO : Hid (w5.ownsRow w1.heap.size 5 1 (.slice (some ⟨g1, 0, none⟩) 16 c1) 16 (val.map B)) := ownsRow_base_le ho1 hs3
      have HB5 := hide ((unhide S3).trans (hb5.mono hs3))
      clear ho1 hb5 S1 S2 S3 HB3
      go_wp2
      refine bodyPost_ret (results_tmp4 rfl _ _ _) rfl ?_
      exact ⟨1, at', val, unhide HLO, hval, unhide HB5, .inr ⟨rfl, g1, c1, rfl, unhide HO⟩⟩
    · have hb1 : (vd != 1) = true := by rw [bne_iff_ne]; exact h1
      have H1 := hide h1
      clear h1
      go_wp2_with (first | (refine wpList_store_mid rfl 41 _ _ rfl w3.heap.size 0 (colA val) rfl rfl (unhide S1) hsv (colA_one _) ?_))
      refine bodyPost_ret (results_tmp4 rfl _ _ _) rfl ?_
      exact ⟨vd, at', val, unhide HLO, hval, unhide S3, .inl ⟨unhide H1, rfl⟩⟩
  · exact absurd (fun i hi _ => hc.col i hi) hno

end Go.Proofs.YtdcinlkkjbclmabDoor
