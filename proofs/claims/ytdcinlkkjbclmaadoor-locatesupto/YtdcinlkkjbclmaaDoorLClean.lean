/- The contract of platterlaw.clean. -/
import Derived.Test.YtdcinlkkjbclmaaDoorLGiven
import Derived.Test.YtdcinlkkjbclmaaDoorLaw
import Derived.Laws.BytesArg
namespace Go.Proofs.YtdcinlkkjbclmaaDoor
open Go.RowKit

/-- nothing but blocks of A is changed -/
structure Only (A : Nat → Prop) (w w' : World) : Prop where
  os : w'.os = w.os
  tape : w'.tape = w.tape
  output : w'.output = w.output
  size : w'.heap.size = w.heap.size
  block : ∀ k, ¬ A k → w'.heap[k]? = w.heap[k]?
theorem Only.refl (A : Nat → Prop) (w : World) : Only A w w := ⟨rfl, rfl, rfl, rfl, fun _ _ => rfl⟩
theorem Only.mono {A A' : Nat → Prop} {w w' : World} (h : Only A w w') (ha : ∀ k, A k → A' k) : Only A' w w' := ⟨h.os, h.tape, h.output, h.size, fun k hk => h.block k (fun h' => hk (ha k h'))⟩
theorem Only.trans {A : Nat → Prop} {w w' w'' : World} (h : Only A w w') (h' : Only A w' w'') : Only A w w'' := ⟨h'.os.trans h.os, h'.tape.trans h.tape, h'.output.trans h.output, h'.size.trans h.size, fun k hk => (h'.block k hk).trans (h.block k hk)⟩
theorem Only.drewN {A : Nat → Prop} {w w' : World} (h : Only A w w') (n : Nat) : Only A w (w'.drewN n) := ⟨h.os, h.tape, h.output, h.size, h.block⟩
theorem Only.setCell {A : Nat → Prop} {w w' : World} (h : Only A w w') (a : Addr) (v : Value) (ha : A a.block) : Only A w (w'.setCell a v) :=
  ⟨h.os, h.tape, h.output, by simpa using h.size, fun k hk => (heap_setCell_other w' a k v (fun e => hk (e ▸ ha))).trans (h.block k hk)⟩
theorem Only.below {A : Nat → Prop} {w w' : World} (h : Only A w w') (n : Nat) (hn : ∀ k, k < n → ¬ A k) : Below n w w' := ⟨h.os, h.tape, h.output, by rw [h.size]; exact Nat.le_refl _, fun k hk => h.block k (hn k hk)⟩

theorem strOf_nil : strOf [] = ByteArray.empty := rfl
theorem conv_addr {W : World} {x : Addr} {c : Nat} {xs : List Nat} (h : xs = [] ∨ ∃ b o : Nat, x = ⟨b, o, none⟩ ∧ W.rangeAt b o (xs.map B)) (hx : ∀ y ∈ xs, y < 256) : (convert 31 9 (.slice (some x) xs.length c)).run Tryd.prog W = .ok (.string (strOf xs)) W := by
  have hl : (xs.map UInt8.ofNat).length = xs.length := List.length_map _
  have := run_convert_bytes_back (P := Tryd.prog) W 31 9 5 x c (xs.map UInt8.ofNat) Tryd.underlying31 Tryd.underlying5 Tryd.underlying9 (fun j hj => by
    have hj' : j < xs.length := by simpa using hj
    rcases h with h | ⟨b, o, rfl, h⟩
    · rw [h] at hj'; simp at hj'
    rw [Addr.add_mid, h j _ (byte_at xs j hj')]
    have e : xs.getD j 0 = xs[j] := by simp [hj']
    have hb := hx xs[j] (List.getElem_mem hj')
    rw [e]
    simp only [List.getElem_map, UInt8.toNat_ofNat']
    rw [Nat.mod_eq_of_lt (by simpa using hb)])
  rw [hl] at this
  exact this
theorem conv_bn {W : World} {u : Value} {xs : List Nat} {zn : Bool} (h : SlBn W u xs zn) (hx : ∀ y ∈ xs, y < 256) : (convert 31 9 u).run Tryd.prog W = .ok (.string (strOf xs)) W := by
  rcases h with ⟨_, rfl, rfl⟩ | ⟨_, x, cap, rfl, h⟩
  · exact run_convert_bytes_nil W 31 5 Tryd.underlying31 Tryd.underlying5 0 0 9 Tryd.underlying9
  · exact conv_addr h hx

theorem ext_range {w : World} {g : Nat} {xs : List Nat} (h : w.rowIs g 5 (xs.length + 4) (extV xs)) : w.rangeAt g 0 (xs.map B) := fun j v hv => by
  have hj : j < xs.length := by have := (List.getElem?_eq_some_iff.1 hv).1; simpa using this
  rw [Nat.zero_add, h.cell (by omega), extV, if_pos hj]
  rw [byte_at xs j hj] at hv
  exact hv

set_option maxHeartbeats 8000000 in
theorem clean_any (G : Nat) (l : Value) (Ls : List (List Nat)) (z : Nat → Bool) (Gf S : Nat → Nat) (w0 w : World) (hg : GivenTo w G Ls.length Ls.length Ls z Gf S) (hv : SlLn w0 l Ls false z) (h0 : w0.heap.size ≤ G) (hb0 : Below w0.heap.size w0 w)
    (hl : Ls.length ≤ 1048576) (hll : ∀ i, i < Ls.length → (Ls.getD i []).length ≤ 1048576) (hby : ∀ i, i < Ls.length → ∀ x ∈ Ls.getD i [], x < 256) :
    Calls Tryd.prog 10 #[.slice (some ⟨G, 0, none⟩) Ls.length (Ls.length + 4), l] w fun e w' => e = .returned (.bool true) ∧ Only (fun k => ∃ i, i < Ls.length ∧ z i = false ∧ k = Gf i) w w' := by
  rcases id hv with ⟨h, _⟩ | ⟨_, x, lc, rfl, hd⟩
  · cases h
  have hn1 := fun (w' : World) => run_neq_slice_nil_any (P := Tryd.prog) w' 24 31 (some x) Ls.length lc 0 0 Tryd.underlying24
  have HG := hide hg
  have HV := hide hv
  have HB0 := hide hb0
  have HLL := hide hll
  have HBY := hide hby
  have hx4 : (Ls.length : Int) + 4 ≤ (Ls.length : Int) + 4 := by omega
  have hx0 : (0 : Int) ≤ (Ls.length : Int) + 4 := by omega
  clear hg hv hb0 hll hby hd
  go_enter Tryd.func10, Tryd.ntmps10
  go_wp2
  clear hn1
  go_loopw [6] (fun iv wr => ∃ j : Nat, j ≤ 4 ∧ iv = .int .i64 ((Ls.length + j : Nat) : Int) ∧ wr = w) (fun i _ => Ls.length + 4 - (intOf i).toNat)
  case atStart => exact ⟨0, by omega, rfl, rfl⟩
  case round =>
    obtain ⟨j, hj, rfl, rfl⟩ := hrel
    rcases Nat.lt_or_ge j 4 with hlt | hge
    · obtain ⟨F, hrow, _, _, hF⟩ := (unhide HG).row
      have c1 := hrow.cell (i := Ls.length + j) (by omega)
      rw [hF j hlt] at c1
      have c2 := ((unhide HG).spare j hlt).cell (i := 0) (by omega)
      unfold B at c2
      have hi1 : (0 : Int) ≤ ((Ls.length + j : Nat) : Int) := by omega
      have hi2 : ((Ls.length + j : Nat) : Int) < (Ls.length : Int) + 4 := by omega
      clear hrow hF
      go_wp2
      go_roundw
      case rel => exact ⟨j + 1, by omega, by go_num, trivial⟩
      case measure => simp [intOf]; omega
    · obtain rfl : j = 4 := by omega
      obtain ⟨wo, hwo⟩ : ∃ wo, wo = wr := ⟨wr, rfl⟩
      subst hwo
      rw [show ((Ls.length + 4 : Nat) : Int) = (Ls.length : Int) + 4 from rfl]
      go_wp2
      go_loopw [7] (fun iv wr => ∃ k : Nat, k ≤ Ls.length ∧ iv = .int .i64 (k : Int) ∧ Only (fun b => ∃ i, i < k ∧ z i = false ∧ b = Gf i) wo wr) (fun i _ => Ls.length - (intOf i).toNat)
      case atStart => exact ⟨0, Nat.zero_le _, rfl, Only.refl _ _⟩
      case round =>
        obtain ⟨k, hk, rfl, hon⟩ := hrel
        have HON := hide hon
        have hb0 : Below w0.heap.size w0 wr := (unhide HB0).trans (hon.below _ (fun b hb => by
          rintro ⟨i, hi, hz, rfl⟩
          have := (unhide HG).behind i (by omega) hz
          omega))
        have HB := hide hb0
        clear hon
        rcases Nat.lt_or_ge k Ls.length with hlt | hge
        · rcases (unhide HV).below hb0 with ⟨h, _⟩ | ⟨_, x', cap', hve, hd⟩
          · cases h
          simp only [Value.slice.injEq, Option.some.injEq] at hve
          obtain ⟨rfl, _, rfl⟩ := hve
          rcases hd with hd | ⟨b, o, rfl, hd⟩
          · rw [hd] at hlt; simp at hlt
          obtain ⟨u, hu, hsb⟩ := hd k hlt
          have hi1 : (0 : Int) ≤ (k : Int) := by omega
          have hi2 : (k : Int) < (Ls.length : Int) := by omega
          have hlk := unhide HLL k hlt
          have hbk := unhide HBY k hlt
          obtain ⟨F, hrow, hF, _⟩ := (unhide HG).row
          have cG := (hrow.of_block ((unhide HON).block G (by
            rintro ⟨i, hi, hz, e⟩
            have := (unhide HG).behind i (by omega) hz
            omega))).cell (i := k) (by omega)
          rw [hF k hlt] at cG
          have hcv2 : ∀ n, (convert 31 9 u).run Tryd.prog (wr.drewN n) = .ok (.string (strOf (Ls.getD k []))) (wr.drewN n) := fun n => conv_bn (hsb.below (below_drewN (Below.refl wr.heap.size wr) n)) hbk
          clear hd hrow hF
          rcases id hsb with ⟨hzk, rfl, hxs⟩ | ⟨hzk, x1, cap1, rfl, hx⟩
          · rw [gV, if_pos hzk] at cG
            have hn2 := fun (w' : World) => Lib.run_eql_slice_nil (P := Tryd.prog) w' 31 5 none 0 0 0 0 Tryd.underlying31
            have NO := hide ((unhide HON).mono (A' := fun b => ∃ i, i < k + 1 ∧ z i = false ∧ b = Gf i) (fun b ⟨i, hi, h1, h2⟩ => ⟨i, by omega, h1, h2⟩))
            generalize strOf (Ls.getD k []) = st at *
            clear hsb hxs hzk hb0 HB
            go_wp2
            go_quiet (fail)
            have NO2 := hide ((unhide NO).drewN nq)
            have hu2 : (wr.drewN nq).cell? ⟨b, o + k, none⟩ = some (.slice none 0 0) := hu
            generalize wr.drewN nq = wq at *
            clear hu cG hcv2 NO
            go_wp2
            go_roundw
            case rel => exact ⟨k + 1, by omega, by go_num, unhide NO2⟩
            case measure => simp [intOf]; omega
          · rw [gV, if_neg (by rw [hzk]; exact Bool.false_ne_true)] at cG
            have hn2 := fun (w' : World) => Lib.run_eql_slice_nil (P := Tryd.prog) w' 31 5 (some x1) (Ls.getD k []).length cap1 0 0 Tryd.underlying31
            have hrk := ((unhide HG).col k hlt hzk).of_block ((unhide HON).block (Gf k) (by
              rintro ⟨i, hi, hz, e⟩
              have := (unhide HG).inc i k hi hlt hz hzk
              omega))
            have hcv1 : ∀ n, (convert 31 9 (.slice (some ⟨Gf k, 0, none⟩) (Ls.getD k []).length ((Ls.getD k []).length + 4))).run Tryd.prog (wr.drewN n) = .ok (.string (strOf (Ls.getD k []))) (wr.drewN n) := fun n => conv_addr (.inr ⟨Gf k, 0, rfl, ext_range hrk⟩) hbk
            have HZ := hide hzk
            have HRK := hide hrk
            obtain ⟨xs, hxe⟩ : ∃ xs, Ls.getD k [] = xs := ⟨_, rfl⟩
            rw [hxe] at hu hlk hn2 hcv1 hcv2 cG HRK
            generalize strOf xs = st at *
            clear hsb hx hzk hb0 HB hrk hbk hxe
            go_wp2
            go_quiet (fail)
            have NO2 := hide ((unhide HON).drewN nq)
            have hu2 : (wr.drewN nq).cell? ⟨b, o + k, none⟩ = some (.slice (some x1) xs.length cap1) := hu
            have cG2 : (wr.drewN nq).cell? ⟨G, k, none⟩ = some (.slice (some ⟨Gf k, 0, none⟩) xs.length (xs.length + 4)) := cG
            have HR2 : Hid ((wr.drewN nq).rowIs (Gf k) 5 (xs.length + 4) (extV xs)) := unhide HRK
            generalize wr.drewN nq = wq at *
            clear hu cG hcv2 hcv1 HRK HON
            have hx4 : (xs.length : Int) + 4 ≤ (xs.length : Int) + 4 := by omega
            have hx0 : (0 : Int) ≤ (xs.length : Int) + 4 := by omega
            go_wp2
            go_quiet (fail)
            have NO3 := hide ((unhide NO2).drewN nq)
            have hu3 : (wq.drewN nq).cell? ⟨b, o + k, none⟩ = some (.slice (some x1) xs.length cap1) := hu2
            have HR3 : Hid ((wq.drewN nq).rowIs (Gf k) 5 (xs.length + 4) (extV xs)) := unhide HR2
            generalize wq.drewN nq = wp at *
            clear hu2 cG2 HR2 NO2 hn2
            go_wp2
            clear hu3
            have HU : Hid (∃ w3 : World, w3 = wp) := ⟨wp, rfl⟩
            go_loopw [9] (fun iv wz => ∃ m : Nat, xs.length ≤ m ∧ m ≤ xs.length + 4 ∧ iv = .int .i64 (m : Int) ∧ wz = wp) (fun i _ => xs.length + 4 - (intOf i).toNat)
            case atStart => exact ⟨xs.length, Nat.le_refl _, by omega, rfl, rfl⟩
            case round =>
              obtain ⟨m, hm1, hm2, rfl, hwz⟩ := hrel
              subst hwz
              rcases Nat.lt_or_ge m (xs.length + 4) with hmlt | hmge
              · have hmi : (m : Int) < (xs.length : Int) + 4 := by omega
                have hm0 : (0 : Int) ≤ (m : Int) := by omega
                have c1 := (unhide HR3).cell hmlt
                rw [extV, if_neg (by omega)] at c1
                unfold B at c1
                go_wp2
                go_roundw
                case rel => exact ⟨m + 1, by omega, by omega, by go_num, trivial⟩
                case measure => simp [intOf]; omega
              · obtain rfl : m = xs.length + 4 := by omega
                obtain ⟨w3, hw3⟩ : ∃ w3, w3 = wr := ⟨wr, rfl⟩
                subst hw3
                rw [show ((xs.length + 4 : Nat) : Int) = (xs.length : Int) + 4 from rfl]
                go_wp2
                go_loopw [10] (fun iv wz => ∃ m : Nat, m ≤ xs.length + 4 ∧ iv = .int .i64 (m : Int) ∧ Only (fun b => b = Gf k) w3 wz ∧ ∃ f, wz.rowIs (Gf k) 5 (xs.length + 4) f) (fun i _ => xs.length + 4 - (intOf i).toNat)
                case atStart => exact ⟨0, Nat.zero_le _, rfl, Only.refl _ _, _, unhide HR3⟩
                case round =>
                  obtain ⟨m, hm2', rfl, hon4, f, hrow4⟩ := hrel
                  rcases Nat.lt_or_ge m (xs.length + 4) with hmlt | hmge4
                  · have hmi : (m : Int) < (xs.length : Int) + 4 := by omega
                    have hm0 : (0 : Int) ≤ (m : Int) := by omega
                    have c1 := hrow4.cell hmlt
                    have c2 := hrow4.frozen m
                    have NO4 := hide (hon4.setCell ⟨Gf k, m, none⟩ (.int .u8 99) rfl)
                    have NR4 := hide (hrow4.set m (.int .u8 99))
                    clear hon4 hrow4
                    go_wp2
                    go_roundw
                    case rel => exact ⟨m + 1, by omega, by go_num, unhide NO4, _, unhide NR4⟩
                    case measure => simp [intOf]; omega
                  · obtain rfl : m = xs.length + 4 := by omega
                    have NOZ : Hid (Only (fun b => ∃ i, i < k + 1 ∧ z i = false ∧ b = Gf i) wo wr) := ((unhide NO3).mono (fun b ⟨i, hi, h1, h2⟩ => ⟨i, by omega, h1, h2⟩)).trans (hon4.mono (fun b hb => ⟨k, by omega, unhide HZ, hb⟩))
                    clear hon4 hrow4
                    go_wp2
                    go_roundw
                    case rel => exact ⟨k + 1, by omega, by go_num, unhide NOZ⟩
                    case measure => simp [intOf]; omega
        · obtain rfl : k = Ls.length := by omega
          clear hb0 HB
          go_wp2
          go_ret
          exact ⟨rfl, unhide HON⟩

end Go.Proofs.YtdcinlkkjbclmaaDoor
