/- The labels of a new volume's disks; commands that are told no more. -/
import Derived.Test.YtdcinlkkjbclmabGreatVWrite
namespace Go.Proofs.YtdcinlkkjbclmabGreat
open Go.RowKit

theorem wait_keep (vb : Nat) (A : VA) (O : List Nat) (d : Int) (db : Nat) (w : World) (h : Vol w vb A O) (hd : Blk w db #[.int .i64 d] 3) (hdo : db ∉ O) :
    Calls Tryz.prog 59 #[.pointer (some ⟨vb, 4, none⟩), .func (.func 60) #[] #[.pointer (some ⟨db, 0, none⟩)]] w fun e w' => e = .returned (.tuple #[]) ∧ Step w O w' vb { A with wait := A.wait.filter (fun c => c.disk != d) } := by
  obtain ⟨G, h, rfl, hnd, hdi⟩ := h
  obtain ⟨g0, hq, hg0, hx0, hvg⟩ := ring_at_w h
  have hdl := hd.lt
  have hdv : db ≠ vb := fun e => hdo (e ▸ List.mem_append_left _ (own_mem.2 (Or.inl rfl)))
  have hdg : db ≠ g0 := fun e => by
    rcases hx0 with ⟨h1, h2⟩ | ⟨_, h2⟩
    · exact hdo (List.mem_append_left _ (own_mem.2 (by rw [e, h2]; simp [h1])))
    · omega
  refine (keepC_any vb 4 (volC A G) _ g0 G.nw G.fw A.wait d db w h.blk (by show some (plV G.gw G.nw) = _; rw [hg0]) rfl rfl hq h.few.1 hvg hd hdv hdg).mono ?_
  rintro e w' ⟨rfl, f', hb, hr, hch⟩
  refine ⟨rfl, Vol.lift_sub hnd hdi (step_w (g' := g0) (n' := G.nw) (f' := f') h hx0 hch ?_ hr ?_ h.few.1) List.filter_sublist⟩
  · have e1 : volC { A with wait := A.wait.filter (fun c => c.disk != d) } { G with gw := g0, nw := G.nw, fw := f' } = upd3 (volC A G) 4 (plV g0 G.nw) (.int .i64 (f' : Int)) (.int .i64 ((A.wait.filter (fun c => c.disk != d)).length : Int)) := by
      unfold volC upd3
      simp
    rw [e1]
    exact hb
  · rcases hx0 with ⟨h1, _⟩ | ⟨_, h2⟩
    · exact Or.inl ⟨rfl, h1⟩
    · exact Or.inr (by omega)

theorem Step.chg' {w w' : World} {O : List Nat} {vb : Nat} {A' : VA} (h : Step w O w' vb A') : Chg (fun b => b ∈ O) w w' := by
  obtain ⟨_, _, h, _⟩ := h
  exact h
/-- labels for these disks, which bring these along -/
def labelA (A : VA) : List (Nat × Value) → VA := fun L => L.foldl (fun A p => gaveA A 2 p.1 0 p.2) A
theorem labelA_snoc (A : VA) (L : List (Nat × Value)) (p : Nat × Value) : labelA A (L ++ [p]) = gaveA (labelA A L) 2 p.1 0 p.2 := by unfold labelA; rw [List.foldl_append]; rfl
theorem labelA_facts (A : VA) (L : List (Nat × Value)) : (labelA A L).stand = A.stand ∧ (labelA A L).wait.length ≤ A.wait.length + L.length := by
  unfold labelA
  induction L generalizing A with
  | nil => exact ⟨rfl, Nat.le_refl _⟩
  | cons p r ih =>
    obtain ⟨h1, h2⟩ := ih (gaveA A 2 p.1 0 p.2)
    have h3 := gaveA_wait A 2 p.1 0 p.2
    refine ⟨h1.trans (gaveA_stand _ _ _ _ _), ?_⟩
    simp only [List.length_cons, List.foldl_cons] at *
    omega
theorem curTo_lt (l : List Int) (k : Nat) : ∀ d ∈ curTo l k, d < k := by
  intro d hd
  unfold curTo at hd
  simp only [List.mem_filter, List.mem_range] at hd
  exact hd.1
/-- eight bytes -/
def Eight (v : Value) : Prop := ∃ g c : Nat, v = .slice (some ⟨g, 0, none⟩) 8 c

set_option maxRecDepth 100000 in
set_option maxHeartbeats 2000000 in
theorem writeLabels_any (tb vb : Nat) (A : VA) (O : List Nat) (w : World) (h : Vol w vb A O) (ht : w.cell? ⟨tb, 0, none⟩ = some (.pointer (some ⟨vb, 0, none⟩))) (hto : tb ∉ O) (hs : A.stand.length ≤ 8) (hl : A.wait.length ≤ 90000) :
    Calls Tryz.prog 106 #[.pointer (some ⟨tb, 0, none⟩), .agg #[.bool true, .bool false, .int .i64 0]] w fun e w' => e = .returned (.tuple #[]) ∧ ∃ L : List (Nat × Value), L.map (·.1) = cur A.stand ∧ (∀ p ∈ L, Eight p.2) ∧ Step w O w' vb (labelA A L) := by
  have htl := block_lt_of_cell ht
  have hlt := h.lt
  have hcl := curTo_len A.stand A.stand.length
  have HV := hide h
  have HLT := hide hlt
  clear h hlt
  have hb1 := (Below.refl w.heap.size w).alloc (Nat.le_refl _) (.cells #[.bool true, .bool false, .int .i64 0] 176)
  have hk1 := Blk.new w #[.bool true, .bool false, .int .i64 0] 176
  have hs1 : (w.alloc (.cells #[.bool true, .bool false, .int .i64 0] 176)).heap.size = w.heap.size + 1 := by simp
  have HB1 := hide hb1
  have HK1 := hide hk1
  have HS1 := hide hs1
  clear hb1 hk1 hs1
  go_enter Tryz.func106, Tryz.ntmps106
  go_wp2_with fail
  generalize w.alloc (.cells #[.bool true, .bool false, .int .i64 0] 176) = w1 at *
  have hs1 := unhide HS1
  refine (current_any vb A O w1 ((unhide HV).new (unhide HB1)) hs).mono ?_
  rintro e w2 ⟨v, rfl, hov, hb2⟩
  obtain ⟨lb, ⟨la, c, rfl, hcell⟩, hlb⟩ := diskL_own hov
  have hbw2 := (unhide HB1).trans (hb2.mono (unhide HB1).size)
  have hs2 := hb2.size
  have HK2 := hide ((unhide HK1).below hb2 (by omega))
  have HV2 := hide ((unhide HV).new hbw2)
  have HT2 : Hid (w2.cell? ⟨tb, 0, none⟩ = some (.pointer (some ⟨vb, 0, none⟩))) := by rw [hbw2.cell (by exact htl)]; exact ht
  have HBW := hide hbw2
  have HCE := hide hcell
  have HLB := hide hlb
  have hcur := curTo_lt A.stand A.stand.length
  have HCU := hide hcur
  clear hov hb2 hcell hlb hbw2 ht HK1 hcur
  have hcc : (cur A.stand).length ≤ 8 := Nat.le_trans hcl hs
  have HCU' : Hid (∀ d ∈ cur A.stand, d < A.stand.length) := unhide HCU
  clear HCU hcl
  generalize hC : cur A.stand = C at *
  have HC := hide hC
  clear hC
  go_wp2
  go_loopw [13] (fun iv wr => ∃ (k : Nat) (Ok : List Nat) (L : List (Nat × Value)), k ≤ C.length ∧ iv = .int .i64 (k : Int) ∧ L.map (·.1) = C.take k ∧ (∀ p ∈ L, Eight p.2) ∧ Vol wr vb (labelA A L) Ok ∧ Chg (fun b => b ∈ O) w2 wr ∧ ∀ b ∈ Ok, b ∈ O ∨ w2.heap.size ≤ b) (fun i _ => C.length - (intOf i).toNat)
  case atStart => exact ⟨0, O, [], Nat.zero_le _, rfl, rfl, fun p hp => by simp at hp, unhide HV2, Chg.refl _ _, fun b hb => Or.inl hb⟩
  case round =>
    obtain ⟨k, Ok, L, hk, rfl, hLm, hLe, hvk, hck, hok⟩ := hrel
    rcases Nat.lt_or_ge k C.length with hlt | hge
    · obtain ⟨d, hd⟩ : ∃ d, C[k]? = some d := ⟨C[k], List.getElem?_eq_getElem hlt⟩
      obtain ⟨b, hb, rfl, hcell⟩ := unhide HCE k d hd
      have hdl := unhide HCU' d (List.mem_of_getElem? hd)
      have hbb := unhide HLB b hb
      clear hb
      have hbo : b ∉ O := fun ho => by have := unhide HLT b ho; omega
      have hwo : w.heap.size ∉ O := fun ho => by have := unhide HLT _ ho; omega
      have c0 : wr.cell? ⟨b, k, none⟩ = some (.int .i64 (d : Int)) := by
        rw [World.cell?_of_block (w := w2) (hck.block b (block_lt_of_cell hcell) hbo)]
        exact hcell
      have c1 : wr.cell? ⟨tb, 0, none⟩ = some (.pointer (some ⟨vb, 0, none⟩)) := by
        rw [World.cell?_of_block (w := w2) (hck.block tb (by omega) hto)]
        exact unhide HT2
      have hkb := (unhide HK2).chg hck hwo
      have b0 : wr.cell? ⟨w.heap.size, 0, none⟩ = some (.bool true) := hkb.cell 0
      have b1 : wr.cell? ⟨w.heap.size, 1, none⟩ = some (.bool false) := hkb.cell 1
      have b2 : wr.cell? ⟨w.heap.size, 2, none⟩ = some (.int .i64 0) := hkb.cell 2
      obtain ⟨f1, f2⟩ := labelA_facts A L
      have hLl : L.length ≤ k := by have := congrArg List.length hLm; rw [List.length_map, List.length_take] at this; omega
      have hwk := hvk.lt
      have htk : tb ∉ Ok := fun ho => by rcases hok tb ho with q | q; exact hto q; omega
      have hwk' : w.heap.size ∉ Ok := fun ho => by rcases hok _ ho with q | q; exact hwo q; omega
      have hszr := hck.size
      have HVK := hide hvk
      have HCK := hide hck
      have HOK := hide hok
      have HLM := hide hLm
      have HLE := hide hLe
      have HD := hide hd
      have hk0 : (0 : Int) ≤ (k : Int) := by omega
      have hk1 : (k : Int) < (C.length : Int) := by omega
      have HWR : Hid (∀ w', Below wr.heap.size wr w' → Calls Tryz.prog 110 #[.pointer (some ⟨tb, 0, none⟩), .agg #[.int .i64 (d : Int), .int .i64 0], .agg (label8.map Y).toArray] w' fun e w'' => e = .returned (.tuple #[]) ∧ ∃ g c : Nat, Step w' Ok w'' vb (gaveA (labelA A L) 2 d 0 (.slice (some ⟨g, 0, none⟩) 8 c))) := fun w' hw =>
        write_any tb vb (labelA A L) Ok d 0 label8 w' (hvk.new hw) ((hw.cell (by exact block_lt_of_cell c1)).trans c1) htk (by rw [f1]; exact hdl) (by omega) ⟨rfl, by intro x hx; simp [label8] at hx; omega⟩
      clear hvk hck hok hd hcell f1 f2 hLm hLe hkb hwk
      go_wp2_with fail
      clear c0
      go_region_held3 (fun w' => w'.cell? ⟨w.heap.size, 0, none⟩ = some (.bool true) ∧ w'.cell? ⟨w.heap.size, 1, none⟩ = some (.bool false) ∧ w'.cell? ⟨w.heap.size, 2, none⟩ = some (.int .i64 0)) (first | exact ⟨b0, b1, b2⟩ | exact ⟨q0, q1, q2⟩ | exact ⟨p0, p1, p2⟩)
        (first | (go_at_call 111; refine (label_any _).mono ?_; rintro e w3 ⟨rfl, hb3⟩; have hB3 : Below wr.heap.size wr w3 := (Below.refl wr.heap.size wr).drew.trans hb3; have q0 := (hB3.cell (p := ⟨w.heap.size, 0, none⟩) (by show w.heap.size < _; omega)).trans b0; have q1 := (hB3.cell (p := ⟨w.heap.size, 1, none⟩) (by show w.heap.size < _; omega)).trans b1; have q2 := (hB3.cell (p := ⟨w.heap.size, 2, none⟩) (by show w.heap.size < _; omega)).trans b2; clear hb3) |
          (go_at_call 110; refine (unhide HWR _ hB3).mono ?_; rintro e w4 ⟨rfl, g, gc, hst⟩; have hch := hst.chg'; have p0 := (World.cell?_of_block (w := w3) (a := ⟨w.heap.size, 0, none⟩) (hch.block w.heap.size (by have := hB3.size; omega) hwk')).trans q0; have p1 := (World.cell?_of_block (w := w3) (a := ⟨w.heap.size, 1, none⟩) (hch.block w.heap.size (by have := hB3.size; omega) hwk')).trans q1; have p2 := (World.cell?_of_block (w := w3) (a := ⟨w.heap.size, 2, none⟩) (hch.block w.heap.size (by have := hB3.size; omega) hwk')).trans q2; have HST := hide hst; clear hst hch))
      obtain ⟨O1, v1, ch1, o1⟩ := Step.trans (unhide HCK) (unhide HOK) (Step.new hB3 (unhide HST))
      have HV1 : Hid (Vol w4 vb (labelA A (L ++ [(d, .slice (some ⟨g, 0, none⟩) 8 gc)])) O1) := by rw [labelA_snoc]; exact v1
      have HC1 := hide ch1
      have HO1 := hide o1
      have HLM1 : Hid ((L ++ [(d, Value.slice (some ⟨g, 0, none⟩) 8 gc)]).map (·.1) = C.take (k + 1)) := by
        rw [List.map_append, unhide HLM, List.take_succ_eq_append_getElem hlt]
        have h1 := unhide HD
        rw [List.getElem?_eq_getElem hlt] at h1
        show C.take k ++ [d] = C.take k ++ [C[k]]
        rw [Option.some.inj h1]
      have HLE1 : Hid (∀ p ∈ L ++ [(d, Value.slice (some ⟨g, 0, none⟩) 8 gc)], Eight p.2) := fun p hp => by
        rcases List.mem_append.1 hp with hp | hp
        · exact unhide HLE p hp
        · rw [List.mem_singleton] at hp; subst hp; exact ⟨g, gc, rfl⟩
      clear v1 ch1 o1 HST HWR
      generalize L ++ [(d, Value.slice (some ⟨g, 0, none⟩) 8 gc)] = L1 at *
      go_wp2
      go_roundw
      case rel => exact ⟨k + 1, O1, L1, by omega, by go_num, unhide HLM1, unhide HLE1, unhide HV1, unhide HC1, unhide HO1⟩
      case measure => simp [intOf]; omega
    · obtain rfl : k = C.length := by omega
      rw [List.take_length] at hLm
      have HST := hide (Step.new (unhide HBW) ⟨Ok, hvk, hck, hok⟩)
      have HLM := hide hLm
      have HLE := hide hLe
      clear hvk hck hok hLm hLe
      go_wp2
      refine bodyPost_end (results_none rfl _ _ _) rfl ⟨rfl, L, (unhide HLM).trans (unhide HC).symm, unhide HLE, unhide HST⟩

end Go.Proofs.YtdcinlkkjbclmabGreat
