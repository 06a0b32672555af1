/- volume.Open. -/
import Derived.Test.YtdcinlkkjbclmabGreatVMake
namespace Go.Proofs.YtdcinlkkjbclmabGreat
open Go.RowKit

theorem vol_new {w : World} {vb sb mb d s : Nat} (h1 : Blk w vb #[.slice (some ⟨sb, 0, none⟩) d d, .int .i64 (s : Int), .int .i64 0, .nilIface, .slice none 0 0, .int .i64 0, .int .i64 0, .map (some mb), .int .i64 0, .slice none 0 0, .int .i64 0, .int .i64 0, .slice none 0 0, .int .i64 0, .int .i64 0, .int .i64 0, .slice none 0 0, .int .i64 0, .int .i64 0, .bool false] 81)
    (h2 : Blk w sb (zeros d).toArray 3) (h3 : MapB w mb []) (h4 : vb ≠ sb) (h5 : vb ≠ mb) (h6 : sb ≠ mb) :
    Vol w vb ⟨List.replicate d 0, s, 0, .nilIface, [], [], 0, [], [], 0, false⟩ [vb, sb, mb] := by
  refine ⟨⟨sb, mb, 0, 0, 0, 0, 0, 0, 0, 0, 0⟩, ⟨?_, ?_, h3, RingB.nil _ _ _ _, RingB.nil _ _ _ _, RingB.nil _ _ _ _, ?_, by simp⟩, ?_, ?_, fun c hc => by simp at hc⟩
  · have e : volC ⟨List.replicate d 0, s, 0, .nilIface, [], [], 0, [], [], 0, false⟩ ⟨sb, mb, 0, 0, 0, 0, 0, 0, 0, 0, 0⟩ = #[.slice (some ⟨sb, 0, none⟩) d d, .int .i64 (s : Int), .int .i64 0, .nilIface, .slice none 0 0, .int .i64 0, .int .i64 0, .map (some mb), .int .i64 0, .slice none 0 0, .int .i64 0, .int .i64 0, .slice none 0 0, .int .i64 0, .int .i64 0, .int .i64 0, .slice none 0 0, .int .i64 0, .int .i64 0, .bool false] := by
      unfold volC plV
      simp
    rw [e]
    exact h1
  · have e : ((List.replicate d (0 : Int)).map (Value.int .i64)) = zeros d := by unfold zeros; simp
    rw [e]
    exact h2
  · simp [VG.own, opt, h4, h5, h6]
  · simp [VG.own, opt, dats]
  · simp [h4, h5, h6]
/-- a volume as it is made -/
def newA (d s tb : Nat) : VA := ⟨List.replicate d 0, s, 0, opnV tb, [], [], 0, [], [], 0, false⟩
theorem cur_all (d : Nat) : cur (List.replicate d 0) = List.range d := by
  unfold cur curTo
  rw [List.length_replicate, List.filter_eq_self]
  intro a ha
  rw [List.mem_range] at ha
  simp [ha]
/-- what is asked first -/
def firstA (d s tb : Nat) (fr : Bool) (nx : Value) (A : VA) : Prop :=
  (fr = true ∧ nx = .func (.func 107) #[.pointer (some ⟨tb, 0, none⟩)] #[] ∧ ∃ L : List (Nat × Value), L.map (·.1) = List.range d ∧ (∀ p ∈ L, Eight p.2) ∧ A = { newA d s tb with wait := L.map (fun p => ⟨0, 2, (p.1 : Int), 0, p.2⟩) }) ∨
  (fr = false ∧ A = { newA d s tb with wait := (List.range d).map (fun (k : Nat) => (⟨0, 1, (k : Int), 0, .slice none 0 0⟩ : Cmd)) })
theorem getD_zero (d k : Nat) : (List.replicate d (0 : Int)).getD k 0 ≠ 1 := by
  rw [List.getD_eq_getElem?_getD, List.getElem?_replicate]
  split <;> simp
theorem OpenT.new (w : World) (vb hb : Nat) (fr : Bool) (hh : HeardB w hb) : OpenT (w.alloc (.cells #[.pointer (some ⟨vb, 0, none⟩), .map (some hb), .nilFunc, .int .i64 0, .int .u8 0, .int .u8 0, .int .u8 0, .int .u8 0, .int .u8 0, .int .u8 0, .int .u8 0, .int .u8 0, .int .u8 0, .int .u8 0, .int .u8 0, .int .u8 0, .int .u8 0, .int .u8 0, .int .u8 0, .int .u8 0, .int .u8 0, .int .u8 0, .int .u8 0, .int .u8 0, .int .u8 0, .int .u8 0, .int .u8 0, .int .u8 0, .int .u8 0, .int .u8 0, .int .u8 0, .int .u8 0, .int .u8 0, .int .u8 0, .int .u8 0, .int .u8 0, .int .u8 0, .int .u8 0, .int .u8 0, .int .u8 0, .int .u8 0, .int .u8 0, .int .u8 0, .int .u8 0, .int .u8 0, .int .u8 0, .int .u8 0, .int .u8 0, .int .u8 0, .int .u8 0, .int .u8 0, .int .u8 0, .nilFunc, .bool fr, .int .i64 0] 101)) w.heap.size hb vb .nilFunc fr :=
  ⟨⟨_, Blk.new w _ _, rfl, rfl, rfl, rfl⟩, hh.chg (X := fun _ => False) ((Chg.refl _ _).alloc _) id⟩
/-- a volume that is being opened -/
structure Opened (w w' : World) (d s : Nat) (fr : Bool) (vb tb hb : Nat) (A : VA) (O : List Nat) (nx : Value) : Prop where
  vol : Vol w' vb A O
  top : OpenT w' tb hb vb nx fr
  tno : tb ∉ O
  hno : hb ∉ O
  new : Below w.heap.size w w'
  own : ∀ b ∈ O, w.heap.size ≤ b
  tnew : w.heap.size ≤ tb
  hnew : w.heap.size ≤ hb
  vnew : w.heap.size ≤ vb
  first : firstA d s tb fr nx A

set_option maxRecDepth 100000 in
set_option maxHeartbeats 1000000 in
theorem begun_any (d s : Nat) (h2 : d ≤ 8) (fr : Bool) (w w1 : World) (vb sb mb tb hb : Nat) (hb1 : Below w.heap.size w w1) (hv : Vol w1 vb ⟨List.replicate d 0, s, 0, .nilIface, [], [], 0, [], [], 0, false⟩ [vb, sb, mb]) (ho : ∀ b ∈ [vb, sb, mb], w.heap.size ≤ b) (ht : OpenT w1 tb hb vb .nilFunc fr) (hto : tb ∉ [vb, sb, mb]) (hho : hb ∉ [vb, sb, mb]) (htn : w.heap.size ≤ tb) (hhn : w.heap.size ≤ hb) :
    Calls Tryz.prog 40 #[.pointer (some ⟨vb, 0, none⟩), opnV tb] w1 fun e w' => e = .returned (.tuple #[]) ∧ ∃ A O nx, Opened w w' d s fr vb tb hb A O nx := by
  obtain ⟨O1, v1, c1, o1⟩ := vol_set (A' := newA d s tb) hv 3 (opnV tb) (fun G => by unfold volC newA; simp) rfl rfl rfl rfl rfl
  have hs1 := hb1.size
  have hlt := hv.lt
  have htl : tb < w1.heap.size := block_lt_of_cell ht.c0
  have hhl := ht.map.lt
  have hto1 : tb ∉ O1 := fun h => by rcases o1 _ h with q | q; exact hto q; omega
  have hho1 : hb ∉ O1 := fun h => by rcases o1 _ h with q | q; exact hho q; omega
  have ht1 : OpenT (w1.setCell ⟨vb, 3, none⟩ (opnV tb)) tb hb vb .nilFunc fr := ht.chg c1 hto hho
  have hs2 := c1.size
  have hlen : (newA d s tb).stand.length = d := List.length_replicate
  have fin : ∀ (w2 : World) (O2 : List Nat), Chg (fun b => b ∈ O1 ∨ b = tb) (w1.setCell ⟨vb, 3, none⟩ (opnV tb)) w2 → (∀ b ∈ O2, b ∈ O1 ∨ (w1.setCell ⟨vb, 3, none⟩ (opnV tb)).heap.size ≤ b) → Below w.heap.size w w2 ∧ (∀ b ∈ O2, w.heap.size ≤ b) ∧ tb ∉ O2 ∧ hb ∉ O2 := fun w2 O2 c2 o2 => by
    have hO1 : ∀ b ∈ O1, w.heap.size ≤ b := fun b hb => by rcases o1 b hb with q | q; exact ho b q; omega
    refine ⟨?_, fun b hb => ?_, fun h => ?_, fun h => ?_⟩
    · have c := (Chg.trans (X := fun b => w.heap.size ≤ b) (Chg.of_new hb1) c1 (fun k hk => Or.inl (ho k hk))).trans c2 (fun k hk => Or.inl (hk.elim (hO1 k) (fun e => e ▸ htn)))
      exact c.below _ (Nat.le_refl _) (fun k hk => by omega)
    · rcases o2 b hb with q | q
      · exact hO1 b q
      · omega
    · rcases o2 _ h with q | q
      · exact hto1 q
      · omega
    · rcases o2 _ h with q | q
      · exact hho1 q
      · omega
  refine start_o vb tb _ _ _ w1 hv ?_
  cases fr
  · refine (begin_old tb hb vb _ O1 _ _ v1 ht1 hto1 hho1 (by rw [hlen]; exact h2) (by simp [newA])).mono ?_
    rintro e w2 ⟨rfl, O2, nx, v2, c2, o2, t2⟩
    obtain ⟨f1, f2, f3, f4⟩ := fin w2 O2 c2 o2
    refine ⟨rfl, _, O2, nx, v2, t2, f3, f4, f1, f2, htn, hhn, ho vb (by simp), Or.inr ⟨rfl, ?_⟩⟩
    rw [hlen, looked_all _ _ (fun k hk => getD_zero d k)]
    simp [newA]
  · refine (begin_fresh tb hb vb _ O1 _ _ v1 ht1 hto1 hho1 (by rw [hlen]; exact h2) (by simp [newA])).mono ?_
    rintro e w2 ⟨rfl, L, hL1, hL2, O2, v2, c2, o2, t2⟩
    obtain ⟨f1, f2, f3, f4⟩ := fin w2 O2 c2 o2
    refine ⟨rfl, _, O2, _, v2, t2, f3, f4, f1, f2, htn, hhn, ho vb (by simp), Or.inl ⟨rfl, rfl, L, by rw [hL1]; exact cur_all d, hL2, ?_⟩⟩
    rw [label_all _ _ (fun p hp => getD_zero d p.1)]
    simp [newA]

set_option maxRecDepth 100000 in
set_option maxHeartbeats 4000000 in
theorem volOpen_any (d s : Nat) (fr : Bool) (w : World) (h1 : 4 ≤ d) (h2 : d ≤ 8) :
    Calls Tryz.prog 27 #[.int .i64 (d : Int), .int .i64 (s : Int), .bool fr] w fun e w' => ∃ vb tb hb A O nx, e = .returned (.pointer (some ⟨vb, 0, none⟩)) ∧ Opened w w' d s fr vb tb hb A O nx := by
  have hmt := make_told
  have HN := hide (Blk.new w #[.int .i64 0] 3)
  have HB0 := hide ((Below.refl w.heap.size w).alloc (Nat.le_refl _) (.cells #[.int .i64 0] 3))
  go_enter Tryz.func27, Tryz.ntmps27
  go_wp2_with fail
  refine (repeat_any d w.heap.size h1 h2 _ ((unhide HN).cell 0)).mono ?_
  rintro e w1 ⟨g, rfl, hg, hk1, hb1⟩
  have hs1 : w.heap.size + 1 ≤ w1.heap.size := by have := hb1.size; simpa using this
  have hg' : w.heap.size + 1 ≤ g := by simpa using hg
  have hgl := hk1.lt
  have HK1 := hide hk1
  have HB1 : Hid (Below w.heap.size w w1) := (unhide HB0).trans (hb1.mono (unhide HB0).size)
  have hkv := Blk.new (w1.alloc (.map #[] 0)) #[.slice (some ⟨g, 0, none⟩) d d, .int .i64 (s : Int), .int .i64 0, .nilIface, .slice none 0 0, .int .i64 0, .int .i64 0, .map (some w1.heap.size), .int .i64 0, .slice none 0 0, .int .i64 0, .int .i64 0, .slice none 0 0, .int .i64 0, .int .i64 0, .int .i64 0, .slice none 0 0, .int .i64 0, .int .i64 0, .bool false] 81
  rw [World.size_alloc] at hkv
  have hv1 := vol_new hkv ((hk1.alloc _).alloc _) ((MapB.new w1).chg (X := fun _ => False) ((Chg.refl _ _).alloc _) id) (by omega) (by omega) (by omega)
  have hb1' : Below w.heap.size w ((w1.alloc (.map #[] 0)).alloc (.cells #[.slice (some ⟨g, 0, none⟩) d d, .int .i64 (s : Int), .int .i64 0, .nilIface, .slice none 0 0, .int .i64 0, .int .i64 0, .map (some w1.heap.size), .int .i64 0, .slice none 0 0, .int .i64 0, .int .i64 0, .slice none 0 0, .int .i64 0, .int .i64 0, .int .i64 0, .slice none 0 0, .int .i64 0, .int .i64 0, .bool false] 81)) := ((unhide HB1).alloc (by omega) _).alloc (by rw [World.size_alloc]; omega) _
  have hsz1 : ((w1.alloc (.map #[] 0)).alloc (.cells #[.slice (some ⟨g, 0, none⟩) d d, .int .i64 (s : Int), .int .i64 0, .nilIface, .slice none 0 0, .int .i64 0, .int .i64 0, .map (some w1.heap.size), .int .i64 0, .slice none 0 0, .int .i64 0, .int .i64 0, .slice none 0 0, .int .i64 0, .int .i64 0, .int .i64 0, .slice none 0 0, .int .i64 0, .int .i64 0, .bool false] 81)).heap.size = w1.heap.size + 1 + 1 := by simp
  have HV1 := hide hv1
  have HB2 := hide hb1'
  have HSZ := hide hsz1
  clear hg hk1 hb1 hkv hv1 hb1' hsz1
  go_wp2_with fail
  generalize (w1.alloc (.map #[] 0)).alloc (.cells #[.slice (some ⟨g, 0, none⟩) d d, .int .i64 (s : Int), .int .i64 0, .nilIface, .slice none 0 0, .int .i64 0, .int .i64 0, .map (some w1.heap.size), .int .i64 0, .slice none 0 0, .int .i64 0, .int .i64 0, .slice none 0 0, .int .i64 0, .int .i64 0, .int .i64 0, .slice none 0 0, .int .i64 0, .int .i64 0, .bool false] 81) = w2 at *
  have hsz := unhide HSZ
  clear HSZ
  refine (work_any (w1.heap.size + 1) w2).mono ?_
  rintro e w3 ⟨hb, rfl, hhb, hhe, hb3⟩
  have hs3 := hb3.size
  have hhl := hhe.lt
  have HV3 := hide ((unhide HV1).new hb3)
  have HB3 : Hid (Below w.heap.size w w3) := (unhide HB2).trans (hb3.mono (unhide HB2).size)
  have HH3 := hide hhe
  clear hb3 hhe HV1
  cases fr
  · have HT4 := hide (OpenT.new w3 (w1.heap.size + 1) hb false (unhide HH3))
    have HV4 := hide ((unhide HV3).new ((Below.refl _ _).alloc (Nat.le_refl _) (.cells #[.pointer (some ⟨w1.heap.size + 1, 0, none⟩), .map (some hb), .nilFunc, .int .i64 0, .int .u8 0, .int .u8 0, .int .u8 0, .int .u8 0, .int .u8 0, .int .u8 0, .int .u8 0, .int .u8 0, .int .u8 0, .int .u8 0, .int .u8 0, .int .u8 0, .int .u8 0, .int .u8 0, .int .u8 0, .int .u8 0, .int .u8 0, .int .u8 0, .int .u8 0, .int .u8 0, .int .u8 0, .int .u8 0, .int .u8 0, .int .u8 0, .int .u8 0, .int .u8 0, .int .u8 0, .int .u8 0, .int .u8 0, .int .u8 0, .int .u8 0, .int .u8 0, .int .u8 0, .int .u8 0, .int .u8 0, .int .u8 0, .int .u8 0, .int .u8 0, .int .u8 0, .int .u8 0, .int .u8 0, .int .u8 0, .int .u8 0, .int .u8 0, .int .u8 0, .int .u8 0, .int .u8 0, .int .u8 0, .nilFunc, .bool false, .int .i64 0] 101)))
    have HB4 := hide ((unhide HB3).alloc (by omega) (.cells #[.pointer (some ⟨w1.heap.size + 1, 0, none⟩), .map (some hb), .nilFunc, .int .i64 0, .int .u8 0, .int .u8 0, .int .u8 0, .int .u8 0, .int .u8 0, .int .u8 0, .int .u8 0, .int .u8 0, .int .u8 0, .int .u8 0, .int .u8 0, .int .u8 0, .int .u8 0, .int .u8 0, .int .u8 0, .int .u8 0, .int .u8 0, .int .u8 0, .int .u8 0, .int .u8 0, .int .u8 0, .int .u8 0, .int .u8 0, .int .u8 0, .int .u8 0, .int .u8 0, .int .u8 0, .int .u8 0, .int .u8 0, .int .u8 0, .int .u8 0, .int .u8 0, .int .u8 0, .int .u8 0, .int .u8 0, .int .u8 0, .int .u8 0, .int .u8 0, .int .u8 0, .int .u8 0, .int .u8 0, .int .u8 0, .int .u8 0, .int .u8 0, .int .u8 0, .int .u8 0, .int .u8 0, .int .u8 0, .nilFunc, .bool false, .int .i64 0] 101))
    go_wp2_with fail
    refine (begun_any d s h2 false w _ (w1.heap.size + 1) g w1.heap.size w3.heap.size hb (unhide HB4) (unhide HV4) (by intro b hb; simp only [List.mem_cons, List.not_mem_nil, or_false] at hb; omega) (unhide HT4) (by simp only [List.mem_cons, List.not_mem_nil, or_false]; omega) (by simp only [List.mem_cons, List.not_mem_nil, or_false]; omega) (by omega) (by omega)).mono ?_
    rintro e w5 ⟨rfl, A, O, nx, hop⟩
    have HOP := hide hop
    clear hop HV4 HT4 HB4
    go_wp2
    go_ret
    exact ⟨_, _, _, A, O, nx, rfl, unhide HOP⟩
  · have HT4 := hide (OpenT.new w3 (w1.heap.size + 1) hb true (unhide HH3))
    have HV4 := hide ((unhide HV3).new ((Below.refl _ _).alloc (Nat.le_refl _) (.cells #[.pointer (some ⟨w1.heap.size + 1, 0, none⟩), .map (some hb), .nilFunc, .int .i64 0, .int .u8 0, .int .u8 0, .int .u8 0, .int .u8 0, .int .u8 0, .int .u8 0, .int .u8 0, .int .u8 0, .int .u8 0, .int .u8 0, .int .u8 0, .int .u8 0, .int .u8 0, .int .u8 0, .int .u8 0, .int .u8 0, .int .u8 0, .int .u8 0, .int .u8 0, .int .u8 0, .int .u8 0, .int .u8 0, .int .u8 0, .int .u8 0, .int .u8 0, .int .u8 0, .int .u8 0, .int .u8 0, .int .u8 0, .int .u8 0, .int .u8 0, .int .u8 0, .int .u8 0, .int .u8 0, .int .u8 0, .int .u8 0, .int .u8 0, .int .u8 0, .int .u8 0, .int .u8 0, .int .u8 0, .int .u8 0, .int .u8 0, .int .u8 0, .int .u8 0, .int .u8 0, .int .u8 0, .int .u8 0, .nilFunc, .bool true, .int .i64 0] 101)))
    have HB4 := hide ((unhide HB3).alloc (by omega) (.cells #[.pointer (some ⟨w1.heap.size + 1, 0, none⟩), .map (some hb), .nilFunc, .int .i64 0, .int .u8 0, .int .u8 0, .int .u8 0, .int .u8 0, .int .u8 0, .int .u8 0, .int .u8 0, .int .u8 0, .int .u8 0, .int .u8 0, .int .u8 0, .int .u8 0, .int .u8 0, .int .u8 0, .int .u8 0, .int .u8 0, .int .u8 0, .int .u8 0, .int .u8 0, .int .u8 0, .int .u8 0, .int .u8 0, .int .u8 0, .int .u8 0, .int .u8 0, .int .u8 0, .int .u8 0, .int .u8 0, .int .u8 0, .int .u8 0, .int .u8 0, .int .u8 0, .int .u8 0, .int .u8 0, .int .u8 0, .int .u8 0, .int .u8 0, .int .u8 0, .int .u8 0, .int .u8 0, .int .u8 0, .int .u8 0, .int .u8 0, .int .u8 0, .int .u8 0, .int .u8 0, .int .u8 0, .int .u8 0, .nilFunc, .bool true, .int .i64 0] 101))
    go_wp2_with fail
    refine (begun_any d s h2 true w _ (w1.heap.size + 1) g w1.heap.size w3.heap.size hb (unhide HB4) (unhide HV4) (by intro b hb; simp only [List.mem_cons, List.not_mem_nil, or_false] at hb; omega) (unhide HT4) (by simp only [List.mem_cons, List.not_mem_nil, or_false]; omega) (by simp only [List.mem_cons, List.not_mem_nil, or_false]; omega) (by omega) (by omega)).mono ?_
    rintro e w5 ⟨rfl, A, O, nx, hop⟩
    have HOP := hide hop
    clear hop HV4 HT4 HB4
    go_wp2
    go_ret
    exact ⟨_, _, _, A, O, nx, rfl, unhide HOP⟩

end Go.Proofs.YtdcinlkkjbclmabGreat
