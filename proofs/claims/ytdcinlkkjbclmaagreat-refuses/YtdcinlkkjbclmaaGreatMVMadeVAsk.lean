/- volume.Open. -/
import Derived.Test.YtdcinlkkjbclmaaGreatMOrdersVMake
namespace Go.Proofs.YtdcinlkkjbclmaaGreat
open Go.RowKit

theorem vol_new {w : World} {vb sb mb d s : Nat} (h1 : Blk w vb #[.slice (some ⟨sb, 0, none⟩) d d, .int .i64 (s : Int), .int .i64 0, .nilIface, .slice none 0 0, .int .i64 0, .int .i64 0, .map (some mb), .int .i64 0, .slice none 0 0, .int .i64 0, .int .i64 0, .slice none 0 0, .int .i64 0, .int .i64 0, .int .i64 0, .slice none 0 0, .int .i64 0, .int .i64 0, .bool false] 125)
    (h2 : Blk w sb (zeros d).toArray 3) (h3 : MapB w mb []) (h4 : vb ≠ sb) (h5 : vb ≠ mb) (h6 : sb ≠ mb) :
    Vol w vb ⟨List.replicate d 0, s, 0, .nilIface, [], [], 0, [], [], 0, false⟩ [vb, sb, mb] := by
  refine ⟨⟨sb, mb, 0, 0, 0, 0, 0, 0, 0, 0, 0⟩, ⟨?_, ?_, h3, RingB.nil _ _ _ _, RingB.nil _ _ _ _, RingB.nil _ _ _ _, ?_, by simp⟩, ?_, ?_, fun c hc => by simp at hc⟩
  · have e : volC ⟨List.replicate d 0, s, 0, .nilIface, [], [], 0, [], [], 0, false⟩ ⟨sb, mb, 0, 0, 0, 0, 0, 0, 0, 0, 0⟩ = #[.slice (some ⟨sb, 0, none⟩) d d, .int .i64 (s : Int), .int .i64 0, .nilIface, .slice none 0 0, .int .i64 0, .int .i64 0, .map (some mb), .int .i64 0, .slice none 0 0, .int .i64 0, .int .i64 0, .slice none 0 0, .int .i64 0, .int .i64 0, .int .i64 0, .slice none 0 0, .int .i64 0, .int .i64 0, .bool false] := by
      unfold volC plV
      simp
    rw [e]
    exact h1
  · have e : ((List.replicate d (0 : Int)).map (Value.int .i64)) = zeros d := by unfold zeros; simp
    rw [e]
    exact h2
  · simp [VG.own, opt, h4, h5, h6]
  · simp [VG.own, opt, dats]
  · simp [h4, h5, h6]
/-- a volume as it is made -/
def newA (d s tb : Nat) : VA := ⟨List.replicate d 0, s, 0, opnV tb, [], [], 0, [], [], 0, false⟩
theorem cur_all (d : Nat) : cur (List.replicate d 0) = List.range d := by
  unfold cur curTo
  rw [List.length_replicate, List.filter_eq_self]
  intro a ha
  rw [List.mem_range] at ha
  simp [ha]
/-- what is asked first -/
def firstA (d s tb : Nat) (fr : Bool) (nx : Value) (A : VA) : Prop :=
  (fr = true ∧ nx = .func (.func 162) #[.pointer (some ⟨tb, 0, none⟩)] #[] ∧ ∃ L : List (Nat × Value), L.map (·.1) = List.range d ∧ (∀ p ∈ L, Eight p.2) ∧ A = { newA d s tb with wait := L.map (fun p => ⟨0, 2, (p.1 : Int), 0, p.2⟩) }) ∨
  (fr = false ∧ A = { newA d s tb with wait := (List.range d).map (fun (k : Nat) => (⟨0, 1, (k : Int), 0, .slice none 0 0⟩ : Cmd)) })
theorem getD_zero (d k : Nat) : (List.replicate d (0 : Int)).getD k 0 ≠ 1 := by
  rw [List.getD_eq_getElem?_getD, List.getElem?_replicate]
  split <;> simp
theorem OpenT.new (w : World) (vb hb : Nat) (fr : Bool) (hh : HeardB w hb) : OpenT (w.alloc (.cells #[.pointer (some ⟨vb, 0, none⟩), .map (some hb), .nilFunc, .int .i64 0, .int .u8 0, .int .u8 0, .int .u8 0, .int .u8 0, .int .u8 0, .int .u8 0, .int .u8 0, .int .u8 0, .int .u8 0, .int .u8 0, .int .u8 0, .int .u8 0, .int .u8 0, .int .u8 0, .int .u8 0, .int .u8 0, .int .u8 0, .int .u8 0, .int .u8 0, .int .u8 0, .int .u8 0, .int .u8 0, .int .u8 0, .int .u8 0, .int .u8 0, .int .u8 0, .int .u8 0, .int .u8 0, .int .u8 0, .int .u8 0, .int .u8 0, .int .u8 0, .int .u8 0, .int .u8 0, .int .u8 0, .int .u8 0, .int .u8 0, .int .u8 0, .int .u8 0, .int .u8 0, .int .u8 0, .int .u8 0, .int .u8 0, .int .u8 0, .int .u8 0, .int .u8 0, .int .u8 0, .int .u8 0, .nilFunc, .bool fr, .int .i64 0] 139)) w.heap.size hb vb .nilFunc fr :=
  ⟨⟨_, Blk.new w _ _, rfl, rfl, rfl, rfl⟩, hh.chg (X := fun _ => False) ((Chg.refl _ _).alloc _) id⟩
/-- a volume that is being opened -/
structure Opened (w w' : World) (d s : Nat) (fr : Bool) (vb tb hb : Nat) (A : VA) (O : List Nat) (nx : Value) : Prop where
  vol : Vol w' vb A O
  top : OpenT w' tb hb vb nx fr
  tno : tb ∉ O
  hno : hb ∉ O
  new : Below w.heap.size w w'
  own : ∀ b ∈ O, w.heap.size ≤ b
  tnew : w.heap.size ≤ tb
  hnew : w.heap.size ≤ hb
  vnew : w.heap.size ≤ vb
  first : firstA d s tb fr nx A

set_option maxRecDepth 100000 in
set_option maxHeartbeats 1000000 in
theorem begun_any (d s : Nat) (h2 : d ≤ 8) (fr : Bool) (w w1 : World) (vb sb mb tb hb : Nat) (hb1 : Below w.heap.size w w1) (hv : Vol w1 vb ⟨List.replicate d 0, s, 0, .nilIface, [], [], 0, [], [], 0, false⟩ [vb, sb, mb]) (ho : ∀ b ∈ [vb, sb, mb], w.heap.size ≤ b) (ht : OpenT w1 tb hb vb .nilFunc fr) (hto : tb ∉ [vb, sb, mb]) (hho : hb ∉ [vb, sb, mb]) (htn : w.heap.size ≤ tb) (hhn : w.heap.size ≤ hb) :
    Calls Tryz.prog 71 #[.pointer (some ⟨vb, 0, none⟩), opnV tb] w1 fun e w' => e = .returned (.tuple #[]) ∧ ∃ A O nx, Opened w w' d s fr vb tb hb A O nx := by
  obtain ⟨O1, v1, c1, o1⟩ := vol_set (A' := newA d s tb) hv 3 (opnV tb) (fun G => by unfold volC newA; simp) rfl rfl rfl rfl rfl
  have hs1 := hb1.size
  have hlt := hv.lt
  have htl : tb < w1.heap.size := block_lt_of_cell ht.c0
  have hhl := ht.map.lt
  have hto1 : tb ∉ O1 := fun h => by rcases o1 _ h with q | q; exact hto q; omega
  have hho1 : hb ∉ O1 := fun h => by rcases o1 _ h with q | q; exact hho q; omega
  have ht1 : OpenT (w1.setCell ⟨vb, 3, none⟩ (opnV tb)) tb hb vb .nilFunc fr := ht.chg c1 hto hho
  have hs2 := c1.size
  have hlen : (newA d s tb).stand.length = d := List.length_replicate
  have fin : ∀ (w2 : World) (O2 : List Nat), Chg (fun b => b ∈ O1 ∨ b = tb) (w1.setCell ⟨vb, 3, none⟩ (opnV tb)) w2 → (∀ b ∈ O2, b ∈ O1 ∨ (w1.setCell ⟨vb, 3, none⟩ (opnV tb)).heap.size ≤ b) → Below w.heap.size w w2 ∧ (∀ b ∈ O2, w.heap.size ≤ b) ∧ tb ∉ O2 ∧ hb ∉ O2 := fun w2 O2 c2 o2 => by
    have hO1 : ∀ b ∈ O1, w.heap.size ≤ b := fun b hb => by rcases o1 b hb with q | q; exact ho b q; omega
    refine ⟨?_, fun b hb => ?_, fun h => ?_, fun h => ?_⟩
    · have c := (Chg.trans (X := fun b => w.heap.size ≤ b) (Chg.of_new hb1) c1 (fun k hk => Or.inl (ho k hk))).trans c2 (fun k hk => Or.inl (hk.elim (hO1 k) (fun e => e ▸ htn)))
      exact c.below _ (Nat.le_refl _) (fun k hk => by omega)
    · rcases o2 b hb with q | q
      · exact hO1 b q
      · omega
    · rcases o2 _ h with q | q
      · exact hto1 q
      · omega
    · rcases o2 _ h with q | q
      · exact hho1 q
      · omega
  refine start_o vb tb _ _ _ w1 hv ?_
  cases fr
  · refine (begin_old tb hb vb _ O1 _ _ v1 ht1 hto1 hho1 (by rw [hlen]; exact h2) (by simp [newA])).mono ?_
    rintro e w2 ⟨rfl, O2, nx, v2, c2, o2, t2⟩
    obtain ⟨f1, f2, f3, f4⟩ := fin w2 O2 c2 o2
    refine ⟨rfl, _, O2, nx, v2, t2, f3, f4, f1, f2, htn, hhn, ho vb (by simp), Or.inr ⟨rfl, ?_⟩⟩
    rw [hlen, looked_all _ _ (fun k hk => getD_zero d k)]
    simp [newA]
  · refine (begin_fresh tb hb vb _ O1 _ _ v1 ht1 hto1 hho1 (by rw [hlen]; exact h2) (by simp [newA])).mono ?_
    rintro e w2 ⟨rfl, L, hL1, hL2, O2, v2, c2, o2, t2⟩
    obtain ⟨f1, f2, f3, f4⟩ := fin w2 O2 c2 o2
    refine ⟨rfl, _, O2, _, v2, t2, f3, f4, f1, f2, htn, hhn, ho vb (by simp), Or.inl ⟨rfl, rfl, L, by rw [hL1]; exact cur_all d, hL2, ?_⟩⟩
    rw [label_all _ _ (fun p hp => getD_zero d p.1)]
    simp [newA]

set_option maxRecDepth 100000 in
set_option maxHeartbeats 4000000 in
theorem volOpen_any (d s : Nat) (fr : Bool) (w : World) (h1 : 4 ≤ d) (h2 : d ≤ 8) :
    Calls Tryz.prog 38 #[.int .i64 (d : Int), .int .i64 (s : Int), .bool fr] w fun e w' => ∃ vb tb hb A O nx, e = .returned (.pointer (some ⟨vb, 0, none⟩)) ∧ Opened w w' d s fr vb tb hb A O nx := by
  have hmt := make_told
  have HN := hide (Blk.new w #[.int .i64 0] 3)
  have HB0 := hide ((Below.refl w.heap.size w).alloc (Nat.le_refl _) (.cells #[.int .i64 0] 3))
  go_enter Tryz.func38, Tryz.ntmps38
  go_wp2_with fail
  refine (repeat_any d w.heap.size h1 h2 _ ((unhide HN).cell 0)).mono ?_
  rintro e w1 ⟨g, rfl, hg, hk1, hb1⟩
  have hs1 : w.heap.size + 1 ≤ w1.heap.size := by have := hb1.size; simpa using this
  have hg' : w.heap.size + 1 ≤ g := by simpa using hg
  have hgl := hk1.lt
  have HK1 := hide hk1
  have HB1 : Hid (Below w.heap.size w w1) := (unhide HB0).trans (hb1.mono (unhide HB0).size)
  have hkv := Blk.new (w1.alloc (.map #[] 0)) #[.slice (some ⟨g, 0, none⟩) d d, .int .i64 (s : Int), .int .i64 0, .nilIface, .slice none 0 0, .int .i64 0, .int .i64 0, .map (some w1.heap.size), .int .i64 0, .slice none 0 0, .int .i64 0, .int .i64 0, .slice none 0 0, .int .i64 0, .int .i64 0, .int .i64 0, .slice none 0 0, .int .i64 0, .int .i64 0, .bool false] 125
  rw [World.size_alloc] at hkv
  have hv1 := vol_new hkv ((hk1.alloc _).alloc _) ((MapB.new w1).chg (X := fun _ => False) ((Chg.refl _ _).alloc _) id) (by omega) (by omega) (by omega)
  have hb1' : Below w.heap.size w ((w1.alloc (.map #[] 0)).alloc (.cells #[.slice (some ⟨g, 0, none⟩) d d, .int .i64 (s : Int), .int .i64 0, .nilIface, .slice none 0 0, .int .i64 0, .int .i64 0, .map (some w1.heap.size), .int .i64 0, .slice none 0 0, .int .i64 0, .int .i64 0, .slice none 0 0, .int .i64 0, .int .i64 0, .int .i64 0, .slice none 0 0, .int .i64 0, .int .i64 0, .bool false] 125)) := ((unhide HB1).alloc (by omega) _).alloc (by rw [World.size_alloc]; omega) _
  have hsz1 : ((w1.alloc (.map #[] 0)).alloc (.cells #[.slice (some ⟨g, 0, none⟩) d d, .int .i64 (s : Int), .int .i64 0, .nilIface, .slice none 0 0, .int .i64 0, .int .i64 0, .map (some w1.heap.size), .int .i64 0, .slice none 0 0, .int .i64 0, .int .i64 0, .slice none 0 0, .int .i64 0, .int .i64 0, .int .i64 0, .slice none 0 0, .int .i64 0, .int .i64 0, .bool false] 125)).heap.size = w1.heap.size + 1 + 1 := by simp
  have HV1 := hide hv1
  have HB2 := hide hb1'
  have HSZ := hide hsz1
  clear hg hk1 hb1 hkv hv1 hb1' hsz1
  go_wp2_with fail
  generalize (w1.alloc (.map #[] 0)).alloc (.cells #[.slice (some ⟨g, 0, none⟩) d d, .int .i64 (s : Int), .int .i64 0, .nilIface, .slice none 0 0, .int .i64 0, .int .i64 0, .map (some w1.heap.size), .int .i64 0, .slice none 0 0, .int .i64 0, .int .i64 0, .slice none 0 0, .int .i64 0, .int .i64 0, .int .i64 0, .slice none 0 0, .int .i64 0, .int .i64 0, .bool false] 125) = w2 at *
  have hsz := unhide HSZ
  clear HSZ
  refine (work_any (w1.heap.size + 1) w2).mono ?_
  rintro e w3 ⟨hb, rfl, hhb, hhe, hb3⟩
  have hs3 := hb3.size
  have hhl := hhe.lt
  have HV3 := hide ((unhide HV1).new hb3)
  have HB3 : Hid (Below w.heap.size w w3) := (unhide HB2).trans (hb3.mono (unhide HB2).size)
  have HH3 := hide hhe
  clear hb3 hhe HV1
  cases fr
  · have HT4 := hide (OpenT.new w3 (w1.heap.size + 1) hb false (unhide HH3))
    have HV4 := hide ((unhide HV3).new ((Below.refl _ _).alloc (Nat.le_refl _) (.cells #[.pointer (some ⟨w1.heap.size + 1, 0, none⟩), .map (some hb), .nilFunc, .int .i64 0, .int .u8 0, .int .u8 0, .int .u8 0, .int .u8 0, .int .u8 0, .int .u8 0, .int .u8 0, .int .u8 0, .int .u8 0, .int .u8 0, .int .u8 0, .int .u8 0, .int .u8 0, .int .u8 0, .int .u8 0, .int .u8 0, .int .u8 0, .int .u8 0, .int .u8 0, .int .u8 0, .int .u8 0, .int .u8 0, .int .u8 0, .int .u8 0, .int .u8 0, .int .u8 0, .int .u8 0, .int .u8 0, .int .u8 0, .int .u8 0, .int .u8 0, .int .u8 0, .int .u8 0, .int .u8 0, .int .u8 0, .int .u8 0, .int .u8 0, .int .u8 0, .int .u8 0, .int .u8 0, .int .u8 0, .int .u8 0, .int .u8 0, .int .u8 0, .int .u8 0, .int .u8 0, .int .u8 0, .int .u8 0, .nilFunc, .bool false, .int .i64 0] 139)))
    have HB4 := hide ((unhide HB3).alloc (by omega) (.cells #[.pointer (some ⟨w1.heap.size + 1, 0, none⟩), .map (some hb), .nilFunc, .int .i64 0, .int .u8 0, .int .u8 0, .int .u8 0, .int .u8 0, .int .u8 0, .int .u8 0, .int .u8 0, .int .u8 0, .int .u8 0, .int .u8 0, .int .u8 0, .int .u8 0, .int .u8 0, .int .u8 0, .int .u8 0, .int .u8 0, .int .u8 0, .int .u8 0, .int .u8 0, .int .u8 0, .int .u8 0, .int .u8 0, .int .u8 0, .int .u8 0, .int .u8 0, .int .u8 0, .int .u8 0, .int .u8 0, .int .u8 0, .int .u8 0, .int .u8 0, .int .u8 0, .int .u8 0, .int .u8 0, .int .u8 0, .int .u8 0, .int .u8 0, .int .u8 0, .int .u8 0, .int .u8 0, .int .u8 0, .int .u8 0, .int .u8 0, .int .u8 0, .int .u8 0, .int .u8 0, .int .u8 0, .int .u8 0, .nilFunc, .bool false, .int .i64 0] 139))
    go_wp2_with fail
    refine (begun_any d s h2 false w _ (w1.heap.size + 1) g w1.heap.size w3.heap.size hb (unhide HB4) (unhide HV4) (by intro b hb; simp only [List.mem_cons, List.not_mem_nil, or_false] at hb; omega) (unhide HT4) (by simp only [List.mem_cons, List.not_mem_nil, or_false]; omega) (by simp only [List.mem_cons, List.not_mem_nil, or_false]; omega) (by omega) (by omega)).mono ?_
    rintro e w5 ⟨rfl, A, O, nx, hop⟩
    have HOP := hide hop
    clear hop HV4 HT4 HB4
    go_wp2
    go_ret
    exact ⟨_, _, _, A, O, nx, rfl, unhide HOP⟩
  · have HT4 := hide (OpenT.new w3 (w1.heap.size + 1) hb true (unhide HH3))
    have HV4 := hide ((unhide HV3).new ((Below.refl _ _).alloc (Nat.le_refl _) (.cells #[.pointer (some ⟨w1.heap.size + 1, 0, none⟩), .map (some hb), .nilFunc, .int .i64 0, .int .u8 0, .int .u8 0, .int .u8 0, .int .u8 0, .int .u8 0, .int .u8 0, .int .u8 0, .int .u8 0, .int .u8 0, .int .u8 0, .int .u8 0, .int .u8 0, .int .u8 0, .int .u8 0, .int .u8 0, .int .u8 0, .int .u8 0, .int .u8 0, .int .u8 0, .int .u8 0, .int .u8 0, .int .u8 0, .int .u8 0, .int .u8 0, .int .u8 0, .int .u8 0, .int .u8 0, .int .u8 0, .int .u8 0, .int .u8 0, .int .u8 0, .int .u8 0, .int .u8 0, .int .u8 0, .int .u8 0, .int .u8 0, .int .u8 0, .int .u8 0, .int .u8 0, .int .u8 0, .int .u8 0, .int .u8 0, .int .u8 0, .int .u8 0, .int .u8 0, .int .u8 0, .int .u8 0, .int .u8 0, .nilFunc, .bool true, .int .i64 0] 139)))
    have HB4 := hide ((unhide HB3).alloc (by omega) (.cells #[.pointer (some ⟨w1.heap.size + 1, 0, none⟩), .map (some hb), .nilFunc, .int .i64 0, .int .u8 0, .int .u8 0, .int .u8 0, .int .u8 0, .int .u8 0, .int .u8 0, .int .u8 0, .int .u8 0, .int .u8 0, .int .u8 0, .int .u8 0, .int .u8 0, .int .u8 0, .int .u8 0, .int .u8 0, .int .u8 0, .int .u8 0, .int .u8 0, .int .u8 0, .int .u8 0, .int .u8 0, .int .u8 0, .int .u8 0, .int .u8 0, .int .u8 0, .int .u8 0, .int .u8 0, .int .u8 0, .int .u8 0, .int .u8 0, .int .u8 0, .int .u8 0, .int .u8 0, .int .u8 0, .int .u8 0, .int .u8 0, .int .u8 0, .int .u8 0, .int .u8 0, .int .u8 0, .int .u8 0, .int .u8 0, .int .u8 0, .int .u8 0, .int .u8 0, .int .u8 0, .int .u8 0, .int .u8 0, .nilFunc, .bool true, .int .i64 0] 139))
    go_wp2_with fail
    refine (begun_any d s h2 true w _ (w1.heap.size + 1) g w1.heap.size w3.heap.size hb (unhide HB4) (unhide HV4) (by intro b hb; simp only [List.mem_cons, List.not_mem_nil, or_false] at hb; omega) (unhide HT4) (by simp only [List.mem_cons, List.not_mem_nil, or_false]; omega) (by simp only [List.mem_cons, List.not_mem_nil, or_false]; omega) (by omega) (by omega)).mono ?_
    rintro e w5 ⟨rfl, A, O, nx, hop⟩
    have HOP := hide hop
    clear hop HV4 HT4 HB4
    go_wp2
    go_ret
    exact ⟨_, _, _, A, O, nx, rfl, unhide HOP⟩

end Go.Proofs.YtdcinlkkjbclmaaGreat

/- A request is carried out: where its block lies, a Write's first step. -/
namespace Go.Proofs.YtdcinlkkjbclmaaGreat
open Go.RowKit

theorem results_one {P : Program} {fn : Func} {p : Tmp} {ty : TypeId} (h : fn.results = #[.cell p ty]) (tmps : Array Value) (w : World) (g : Nat) (t : TypeId) (cs : Array Value) (fr : Nat × Nat) (d : TypeDesc)
    (hp : tmps.getD p undef = .pointer (some ⟨g, 0, none⟩)) (hg : w.heap[g]? = some (.cells cs t fr))
    (hu : P.underlying ty = some d) (hd : (match d with | .struct _ | .array _ _ => true | _ => false) = true) (hi : (P.info? ty).map (·.size) = some cs.size) :
    (results fn tmps).run P w = .ok (.agg cs) w := by
  have h1 : tmps[p]?.getD undef = .pointer (some ⟨g, 0, none⟩) := by simpa using hp
  simp [results, h, h1, asAddr, run_loadVar_row w g t ty cs fr d hg hu hd hi]
theorem place_field (a b c d : Value) (w : World) : (Instr.field 200 (.agg #[a, b, c, d]) 0).run Tryz.prog w = .ok a w := by kernel_rfl
theorem place_size : (Tryz.prog.info? 200).map (·.size) = some 4 := by kernel_rfl
def placeV (D b : Int) : Array Value := #[.int .i64 (b / (D - 2)), .int .i64 (b % (D - 2)), .int .i64 (dskAt D (b / (D - 2)) (b % (D - 2))), .int .i64 (17 + 2 * (b / (D - 2)))]
set_option maxRecDepth 100000 in
set_option maxHeartbeats 1000000 in
theorem place_any (vb : Nat) (A : VA) (O : List Nat) (b : Int) (w : World) (h : Vol w vb A O) (h1 : 4 ≤ A.stand.length) (h2 : A.stand.length ≤ 8) (h3 : 0 ≤ b) (h4 : b ≤ 6 * ((A.stand.length : Int) - 2) - 1) :
    Calls Tryz.prog 130 #[.pointer (some ⟨vb, 0, none⟩), .int .i64 b] w fun e w' => e = .returned (.agg (placeV (A.stand.length : Int) b)) ∧ Below w.heap.size w w' := by
  have hd : (4 : Int) ≤ (A.stand.length : Int) := by omega
  have hd8 : (A.stand.length : Int) ≤ 8 := by omega
  have HBL : Hid (∀ w, Calls Tryz.prog 137 #[.int .i64 (A.stand.length : Int), .int .i64 b] w fun e w' => e = .returned (.agg #[.int .i64 (b / ((A.stand.length : Int) - 2)), .int .i64 (b % ((A.stand.length : Int) - 2)), .int .i64 (dskAt (A.stand.length : Int) (b / ((A.stand.length : Int) - 2)) (b % ((A.stand.length : Int) - 2))), .int .i64 (17 + 2 * (b / ((A.stand.length : Int) - 2)))]) ∧ Below w.heap.size w w') := fun w => block_any _ _ w hd hd8 h3 h4
  have HDK : Hid (∀ w', Below w.heap.size w w' → Calls Tryz.prog 106 #[.pointer (some ⟨vb, 0, none⟩)] w' fun e w'' => e = .returned (.int .i64 (A.stand.length : Int)) ∧ w'' = w') := fun w' hw => disks_any vb A O w' (h.new hw)
  clear h h4 h1 h2
  unfold placeV
  generalize (A.stand.length : Int) = D at *
  generalize b / (D - 2) = x0 at *
  generalize b % (D - 2) = x1 at *
  generalize dskAt D x0 x1 = x2 at *
  generalize 17 + 2 * x0 = x3 at *
  go_enter Tryz.func130, Tryz.ntmps130
  go_wp2_with fail
  refine (unhide HDK _ ((Below.refl _ _).alloc (Nat.le_refl _) _)).mono ?_
  rintro e w1 ⟨rfl, hw1⟩
  have hb1 : Below w.heap.size w w1 := by rw [hw1]; exact (Below.refl _ _).alloc (Nat.le_refl _) _
  have hk1 : Blk w1 w.heap.size #[.int .i64 0, .int .i64 0, .int .i64 0, .int .i64 0] 200 := by rw [hw1]; exact Blk.new w _ _
  clear hw1
  have hs1 := hk1.lt
  go_wp2_with fail
  refine (unhide HBL w1).mono ?_
  rintro e w2 ⟨rfl, hb2⟩
  have hk2 := hk1.below hb2 hs1
  have hbw := hb1.trans (hb2.mono hb1.size)
  have c0 : w2.cell? ⟨w.heap.size, 0, none⟩ = some (.int .i64 0) := hk2.cell 0
  have c1 : w2.cell? ⟨w.heap.size, 1, none⟩ = some (.int .i64 0) := hk2.cell 1
  have c2 : w2.cell? ⟨w.heap.size, 2, none⟩ = some (.int .i64 0) := hk2.cell 2
  have c3 : w2.cell? ⟨w.heap.size, 3, none⟩ = some (.int .i64 0) := hk2.cell 3
  have f0 := hk2.free 0
  have f1 := hk2.free 1
  have f2 := hk2.free 2
  have f3 := hk2.free 3
  have HBW := hide hbw
  have HK2 := hide hk2
  clear hb2 hbw hk1 hk2 hb1 HBL HDK
  go_wp2
  have hk3 := ((((unhide HK2).set 0 (.int .i64 x0)).set 1 (.int .i64 x1)).set 2 (.int .i64 x2)).set 3 (.int .i64 x3)
  refine bodyPost_ret (results_one Tryz.results130 _ _ w.heap.size 200 _ (0, 0) _ rfl hk3 Tryz.underlying200 rfl place_size) rfl ⟨rfl, ?_⟩
  exact ((((unhide HBW).setCell (by simp) _).setCell (by simp) _).setCell (by simp) _).setCell (by simp) _

set_option maxRecDepth 100000 in
set_option maxHeartbeats 2000000 in
theorem savingPlace_any (tb vb : Nat) (A : VA) (O : List Nat) (b : Int) (w : World) (h : Vol w vb A O) (t0 : w.cell? ⟨tb, 0, none⟩ = some (.pointer (some ⟨vb, 0, none⟩))) (t3 : w.cell? ⟨tb, 3, none⟩ = some (.int .i64 b)) (h1 : 4 ≤ A.stand.length) (h2 : A.stand.length ≤ 8) (h3 : 0 ≤ b) (h4 : b ≤ 6 * ((A.stand.length : Int) - 2) - 1) :
    Calls Tryz.prog 186 #[.pointer (some ⟨tb, 0, none⟩)] w fun e w' => e = .returned (.agg (placeV (A.stand.length : Int) b)) ∧ Below w.heap.size w w' := by
  have htl := block_lt_of_cell t0
  have HPL : Hid (∀ w', Below w.heap.size w w' → Calls Tryz.prog 130 #[.pointer (some ⟨vb, 0, none⟩), .int .i64 b] w' fun e w'' => e = .returned (.agg (placeV (A.stand.length : Int) b)) ∧ Below w'.heap.size w' w'') := fun w' hw => place_any vb A O b w' (h.new hw) h1 h2 h3 h4
  have HB1 := hide ((Below.refl w.heap.size w).alloc (Nat.le_refl _) (.cells #[.int .i64 0, .int .i64 0, .int .i64 0, .int .i64 0] 200))
  have HK1 := hide (Blk.new w #[.int .i64 0, .int .i64 0, .int .i64 0, .int .i64 0] 200)
  clear h h1 h2 h3 h4
  generalize (A.stand.length : Int) = D at *
  unfold placeV at *
  generalize b / (D - 2) = x0 at *
  generalize b % (D - 2) = x1 at *
  generalize dskAt D x0 x1 = x2 at *
  generalize 17 + 2 * x0 = x3 at *
  go_enter Tryz.func186, Tryz.ntmps186
  go_wp2_with fail
  refine region_tail 9 (by kernel_rfl) (by kernel_rfl) ?_
  rintro w4 hw4
  have HB4 : Hid (Below w.heap.size w w4) := by rw [hw4]; exact (unhide HB1).drew
  have HK4 : Hid (Blk w4 w.heap.size #[.int .i64 0, .int .i64 0, .int .i64 0, .int .i64 0] 200) := by rw [hw4]; exact (unhide HK1).drew
  have q0 : w4.cell? ⟨tb, 0, none⟩ = some (.pointer (some ⟨vb, 0, none⟩)) := ((unhide HB4).cell (by exact htl)).trans t0
  have q3 : w4.cell? ⟨tb, 3, none⟩ = some (.int .i64 b) := ((unhide HB4).cell (by exact htl)).trans t3
  clear hw4 HB1 HK1 t0 t3
  simp only [List.take_succ_cons, List.take_zero, List.drop_succ_cons, List.drop_zero]
  repeat (refine wpStill_step (fun K hK => ?_); go_simp; (try go_ints); refine hK _ ?_; clear hK K)
  refine wpStill_nil ?_
  clear q0 q3
  go_wp2_with fail
  refine (unhide HPL w4 (unhide HB4)).mono ?_
  rintro e w2 ⟨rfl, hb2⟩
  have hk2 := (unhide HK4).below hb2 (unhide HK4).lt
  have hbw := (unhide HB4).trans (hb2.mono (unhide HB4).size)
  have c0 : w2.cell? ⟨w.heap.size, 0, none⟩ = some (.int .i64 0) := hk2.cell 0
  have c1 : w2.cell? ⟨w.heap.size, 1, none⟩ = some (.int .i64 0) := hk2.cell 1
  have c2 : w2.cell? ⟨w.heap.size, 2, none⟩ = some (.int .i64 0) := hk2.cell 2
  have c3 : w2.cell? ⟨w.heap.size, 3, none⟩ = some (.int .i64 0) := hk2.cell 3
  have f0 := hk2.free 0
  have f1 := hk2.free 1
  have f2 := hk2.free 2
  have f3 := hk2.free 3
  have HBW := hide hbw
  have HK2 := hide hk2
  clear hb2 hbw hk2 HB4 HK4 HPL
  go_wp2
  have hk3 := ((((unhide HK2).set 0 (.int .i64 x0)).set 1 (.int .i64 x1)).set 2 (.int .i64 x2)).set 3 (.int .i64 x3)
  refine bodyPost_ret (results_one Tryz.results186 _ _ w.heap.size 200 _ (0, 0) _ rfl hk3 Tryz.underlying200 rfl place_size) rfl ⟨rfl, ?_⟩
  exact ((((unhide HBW).setCell (by simp) _).setCell (by simp) _).setCell (by simp) _).setCell (by simp) _

set_option maxRecDepth 100000 in
set_option maxHeartbeats 2000000 in
theorem writeBegin_any (tb vb : Nat) (A : VA) (O : List Nat) (b : Int) (x : Value) (w : World) (h : Vol w vb A O) (hto : tb ∉ O) (t0 : w.cell? ⟨tb, 0, none⟩ = some (.pointer (some ⟨vb, 0, none⟩))) (t2 : w.cell? ⟨tb, 2, none⟩ = some x) (tf : w.frozen? ⟨tb, 2, none⟩ = false) (t3 : w.cell? ⟨tb, 3, none⟩ = some (.int .i64 b)) (h1 : 4 ≤ A.stand.length) (h2 : A.stand.length ≤ 8) (h3 : 0 ≤ b) (h4 : b ≤ 6 * ((A.stand.length : Int) - 2) - 1) (hl : A.wait.length ≤ 70000) :
    Calls Tryz.prog 224 #[.pointer (some ⟨tb, 0, none⟩)] w fun e w' => e = .returned (.tuple #[]) ∧ ∃ O', Vol w' vb (stripeRead A (b / ((A.stand.length : Int) - 2)) (cur A.stand)) O' ∧ Chg (fun k => k ∈ O ∨ k = tb) w w' ∧ (∀ k ∈ O', k ∈ O ∨ w.heap.size ≤ k) := by
  have htl := block_lt_of_cell t0
  have hlt := h.lt
  have q1 : 0 ≤ b / ((A.stand.length : Int) - 2) := Int.ediv_nonneg h3 (by omega)
  have q2 : b / ((A.stand.length : Int) - 2) ≤ 5 := by
    have : b / ((A.stand.length : Int) - 2) < 6 := Int.ediv_lt_of_lt_mul (by omega) (by omega)
    omega
  have HPL : Hid (∀ w', Below w.heap.size w w' → Calls Tryz.prog 186 #[.pointer (some ⟨tb, 0, none⟩)] w' fun e w'' => e = .returned (.agg (placeV (A.stand.length : Int) b)) ∧ Below w'.heap.size w' w'') := fun w' hw => savingPlace_any tb vb A O b w' (h.new hw) ((hw.cell (by exact htl)).trans t0) ((hw.cell (by exact htl)).trans t3) h1 h2 h3 h4
  have HRS : Hid (∀ w', Below w.heap.size w w' → Calls Tryz.prog 195 #[.pointer (some ⟨tb, 0, none⟩), .int .i64 (b / ((A.stand.length : Int) - 2))] w' fun e w'' => e = .returned (.tuple #[]) ∧ Step w' O w'' vb (stripeRead A (b / ((A.stand.length : Int) - 2)) (cur A.stand))) := fun w' hw => readStripe_any tb vb A O _ w' (h.new hw) ((hw.cell (by exact htl)).trans t0) hto h2 (by omega) q1 q2
  have T2 := hide t2
  have TF := hide tf
  have HLT := hide hlt
  clear h h1 h2 h3 h4 q1 q2 t0 t3 t2 tf hlt
  generalize (A.stand.length : Int) = D at *
  unfold placeV at *
  generalize b / (D - 2) = x0 at *
  generalize b % (D - 2) = x1 at *
  generalize dskAt D x0 x1 = x2 at *
  generalize 17 + 2 * x0 = x3 at *
  have hfd := place_field
  go_enter Tryz.func224, Tryz.ntmps224
  go_wp2_with fail
  go_region_held3 (fun _ => True) (exact trivial)
    (first | (go_at_call 186; refine (unhide HPL _ (Below.refl _ _).drew).mono ?_; rintro e w3 ⟨rfl, hb3⟩; have hB3 : Below w.heap.size w w3 := (Below.refl w.heap.size w).drew.trans hb3; clear hb3) |
      (go_at_call 195; refine (unhide HRS _ hB3).mono ?_; rintro e w4 ⟨rfl, hst⟩; have HST := hide (Step.new hB3 hst); clear hst))
  obtain ⟨O1, v1, c1, o1⟩ := unhide HST
  have q2 : w4.cell? ⟨tb, 2, none⟩ = some x := (World.cell?_of_block (w := w) (a := ⟨tb, 2, none⟩) (c1.block tb htl hto)).trans (unhide T2)
  have qf : w4.frozen? ⟨tb, 2, none⟩ = false := (World.frozen?_of_block (w := w) (a := ⟨tb, 2, none⟩) (c1.block tb htl hto)).trans (unhide TF)
  have HV1 := hide v1
  have HC1 := hide c1
  have HO1 := hide o1
  clear v1 c1 o1 HST HPL HRS hB3
  go_wp2
  have hto1 : tb ∉ O1 := fun ho => by rcases unhide HO1 _ ho with q | q; exact hto q; (have htl' : tb < w.heap.size := htl; omega)
  refine bodyPost_end (results_none rfl _ _ _) rfl ⟨rfl, O1, (unhide HV1).chg (X := fun b => b = tb) ((Chg.refl _ _).setCell _ _ (Or.inl rfl)) (fun b hb e => hto1 (e ▸ hb)), (((unhide HC1).mono (fun k _ hk => Or.inl hk)).setCell _ _ (Or.inl (Or.inr rfl))), unhide HO1⟩

end Go.Proofs.YtdcinlkkjbclmaaGreat
