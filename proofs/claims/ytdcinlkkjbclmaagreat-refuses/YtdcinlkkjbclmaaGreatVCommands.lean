/- Commands: what waits is told. -/
import Derived.Test.YtdcinlkkjbclmaaGreatVSubmit
namespace Go.Proofs.YtdcinlkkjbclmaaGreat
open Go.RowKit

set_option maxRecDepth 100000 in
set_option maxHeartbeats 1000000 in
theorem firstC_none (vb o : Nat) (w : World) (h2 : w.cell? ⟨vb, o + 2, none⟩ = some (.int .i64 0)) :
    Calls Tryz.prog 126 #[.pointer (some ⟨vb, o, none⟩)] w fun e w' => e = .returned (.tuple #[.agg #[.int .i64 0, .int .i64 0, .int .i64 0, .int .i64 0, .slice none 0 0], .bool false]) ∧ Below w.heap.size w w' := by
  have hvl := block_lt_of_cell h2
  have hvl' : vb < w.heap.size := hvl
  go_enter Tryz.func126, Tryz.ntmps126
  go_wp2
  have hk := (Blk.new w #[.int .i64 0, .int .i64 0, .int .i64 0, .int .i64 0, .slice none 0 0] 91).alloc (.cells #[.int .i64 0, .int .i64 0, .int .i64 0, .int .i64 0, .slice none 0 0] 91)
  refine bodyPost_ret (results_cell_tmp Tryz.results126 _ _ w.heap.size 91 _ (0, 0) _ rfl hk Tryz.underlying91 rfl elInfoC) rfl ⟨rfl, ?_⟩
  exact ((Below.refl _ _).alloc (Nat.le_refl _) _).alloc (by simp) _
set_option maxRecDepth 100000 in
set_option maxHeartbeats 1000000 in
theorem takeC_none (vb o : Nat) (w : World) (h2 : w.cell? ⟨vb, o + 2, none⟩ = some (.int .i64 0)) :
    Calls Tryz.prog 110 #[.pointer (some ⟨vb, o, none⟩)] w fun e w' => e = .returned (.tuple #[.agg #[.int .i64 0, .int .i64 0, .int .i64 0, .int .i64 0, .slice none 0 0], .bool false]) ∧ Below w.heap.size w w' := by
  have hvl : vb < w.heap.size := block_lt_of_cell h2
  have hb1 := (Below.refl w.heap.size w).alloc (Nat.le_refl _) (.cells #[.int .i64 0, .int .i64 0, .int .i64 0, .int .i64 0, .slice none 0 0] 91)
  have HF := hide (firstC_none vb o _ ((hb1.cell (by exact hvl)).trans h2))
  have hk1 := Blk.new w #[.int .i64 0, .int .i64 0, .int .i64 0, .int .i64 0, .slice none 0 0] 91
  have HB1 := hide hb1
  have HK1 := hide hk1
  clear hb1 hk1
  go_enter Tryz.func110, Tryz.ntmps110
  go_wp2_with fail
  refine (unhide HF).mono ?_
  rintro e w2 ⟨rfl, hb2⟩
  have hk2 := (unhide HK1).below hb2 (by simp)
  have hbw := (unhide HB1).trans (hb2.mono (unhide HB1).size)
  have hs2 := hk2.lt
  have k0 : w2.cell? ⟨w.heap.size, 0, none⟩ = some (.int .i64 0) := hk2.cell 0
  have k1 : w2.cell? ⟨w.heap.size, 1, none⟩ = some (.int .i64 0) := hk2.cell 1
  have k2 : w2.cell? ⟨w.heap.size, 2, none⟩ = some (.int .i64 0) := hk2.cell 2
  have k3 : w2.cell? ⟨w.heap.size, 3, none⟩ = some (.int .i64 0) := hk2.cell 3
  have k4 : w2.cell? ⟨w.heap.size, 4, none⟩ = some (.slice none 0 0) := hk2.cell 4
  have f0 := hk2.free 0
  have f1 := hk2.free 1
  have f2 := hk2.free 2
  have f3 := hk2.free 3
  have f4 := hk2.free 4
  have HK2 := hide hk2
  have HBW := hide hbw
  clear hk2 hbw hb2 HF HB1 HK1 h2
  go_wp2
  have hk3 := (((((unhide HK2).set 0 (.int .i64 0)).set 1 (.int .i64 0)).set 2 (.int .i64 0)).set 3 (.int .i64 0)).set 4 (.slice none 0 0)
  refine bodyPost_ret (results_cell_tmp Tryz.results110 _ _ w.heap.size 91 _ (0, 0) _ rfl (hk3.alloc _) Tryz.underlying91 rfl elInfoC) rfl ⟨rfl, ?_⟩
  exact ((((((unhide HBW).setCell (by simp) _).setCell (by simp) _).setCell (by simp) _).setCell (by simp) _).setCell (by simp) _).alloc (by simp; omega) _

theorem Blk.same {w : World} {b : Nat} {cs cs' : Array Value} {t t' : TypeId} (h : Blk w b cs t) (h' : Blk w b cs' t') : cs = cs' ∧ t = t' := by
  have e := h.symm.trans h'
  simp only [Option.some.injEq, Obj.cells.injEq] at e
  exact ⟨e.1, e.2.1⟩
/-- what was told is set down anew -/
theorem vol_told {w : World} {vb : Nat} {A : VA} {O : List Nat} {G : VG} (h : VolAt w vb A G) (hO : O = G.own vb ++ dats A.wait) (hnd : O.Nodup) (hdi : ∀ c ∈ A.wait, DataIn w c) (o : Obj) (ts : List Cmd) (hm : MapB (putMap w G.mb o) G.mb ts) : Step w O (putMap w G.mb o) vb { A with told := ts } := by
  subst hO
  have hap := apart_of h.nd
  have hch : Chg (fun b => b = G.mb) w (putMap w G.mb o) := chg_putMap (Chg.refl _ _) _ _ (Or.inl rfl)
  refine Vol.lift_sub hnd hdi ⟨G, ⟨?_, h.std.chg hch hap.sm, hm, ring_chg h.wq hch (fun hn => (hap.w1 hn).2.2), ring_chg h.rq hch (fun hn => (hap.r1 hn).2.2), ring_chg h.sq hch (fun hn => (hap.s1 hn).2.2), h.nd, h.few⟩, hch.mono (fun k _ hk => by rw [hk]; exact own_mem.2 (by simp)), fun b hb => Or.inl hb⟩ (List.Sublist.refl _)
  exact h.blk.chg hch (fun e => hap.mv e.symm)
theorem data_sl {w : World} {c : Cmd} (h : DataIn w c) : ∃ a n m, c.data = .slice a n m := by
  obtain ⟨xs, ⟨_, h2⟩, _⟩ := h
  rcases h2 with ⟨h2, _⟩ | ⟨g, cap, cur, h2, _⟩
  · exact ⟨_, _, _, h2⟩
  · exact ⟨_, _, _, h2⟩
theorem DataIn.keep {X : Nat → Prop} {w w' : World} {c : Cmd} (h : DataIn w c) (hc : Chg X w w') (hx : ∀ b ∈ dBlk c.data, ∀ cs, Blk w b cs 5 → ¬ X b) : DataIn w' c := by
  refine h.at (fun g hg => ?_)
  have hl := h.lt g hg
  obtain ⟨xs, ⟨_, h2⟩, _⟩ := h
  rcases h2 with ⟨h2, _⟩ | ⟨g', cap, cur, h2, _, hh, _⟩
  · rw [h2] at hg; simp [dBlk] at hg
  · rw [h2] at hg
    simp only [dBlk, List.mem_singleton] at hg
    subst hg
    exact hc.block g hl (hx g (by rw [h2]; simp [dBlk]) cur hh)
/-- the block of a row -/
theorem row_blk {w : World} {base : Nat} {t : TypeId} {size : Nat} {v : Value} {n : Nat} {xs : List Value} (h : w.ownsRow base t size v n xs) : ∀ b ∈ dBlk v, base ≤ b ∧ ∃ cs, Blk w b cs t := by
  intro b hb
  rcases h.2 with ⟨h2, _⟩ | ⟨g, cap, cur, h2, hg, hh, _⟩
  · rw [h2] at hb; simp [dBlk] at hb
  · rw [h2] at hb
    simp only [dBlk, List.mem_singleton] at hb
    subst hb
    exact ⟨hg, cur, hh⟩
theorem own_dBlk (v : Value) : ∀ g, v.ownBlock = some g → g ∈ dBlk v := by
  intro g hg
  unfold Value.ownBlock at hg
  split at hg
  · simp only [Option.some.injEq] at hg; subst hg; simp [dBlk]
  · cases hg
/-- what was told, k commands in -/
def toldA (A : VA) (k : Nat) : VA := { A with wait := A.wait.drop k, told := A.told ++ (numb A.lastC (A.wait.take k)).map noData, lastC := A.lastC + k }
/-- the commands told, as the caller has them -/
structure Handed (w : World) (base : Nat) (v : Value) (L : List Cmd) (O : List Nat) : Prop where
  row : w.ownsRow base 91 5 v L.length (L.flatMap Cmd.cells)
  rno : ∀ b ∈ dBlk v, b ∉ O
  dat : ∀ c ∈ L, DataIn w c ∧ ∀ b ∈ dBlk c.data, b ∉ O
theorem Handed.step {w w' : World} {base : Nat} {v : Value} {L : List Cmd} {O O' : List Nat} (h : Handed w base v L O) (hc : Chg (fun b => b ∈ O) w w') (ho : ∀ b ∈ O', b ∈ O ∨ w.heap.size ≤ b) : Handed w' base v L O' := by
  refine ⟨ownsRow_at h.row (fun g hg => ?_), fun b hb ho' => ?_, fun c hcm => ⟨(h.dat c hcm).1.keep hc (fun b hb _ _ => (h.dat c hcm).2 b hb), fun b hb ho' => ?_⟩⟩
  · obtain ⟨_, cs, hk⟩ := row_blk h.row g hg
    exact hc.block g hk.lt (h.rno g hg)
  · obtain ⟨_, cs, hk⟩ := row_blk h.row b hb
    have := hk.lt
    rcases ho b ho' with q | q
    · exact h.rno b hb q
    · omega
  · have := (h.dat c hcm).1.lt b hb
    rcases ho b ho' with q | q
    · exact (h.dat c hcm).2 b hb q
    · omega

set_option maxRecDepth 100000 in
set_option maxHeartbeats 8000000 in
theorem commands_any (vb : Nat) (A : VA) (O : List Nat) (w : World) (h : Vol w vb A O) (hl : A.told.length + A.wait.length ≤ 60) (hid : ∀ c ∈ A.told, c.id ≤ (A.lastC : Int)) (hlc : A.lastC ≤ 100000) :
    Calls Tryz.prog 84 #[.pointer (some ⟨vb, 0, none⟩)] w fun e w' => ∃ v O', e = .returned v ∧ Vol w' vb (toldA A A.wait.length) O' ∧ Chg (fun b => b ∈ O) w w' ∧ (∀ b ∈ O', b ∈ O ∨ w.heap.size ≤ b) ∧ Handed w' w.heap.size v (numb A.lastC A.wait) O' := by
  obtain ⟨iC, hiC, hzz⟩ := Option.map_eq_some_iff.1 elFullC
  simp only [Prod.mk.injEq] at hzz
  obtain ⟨hzC0, hzC1, hzC2⟩ := hzz
  have HV := hide h
  have HID := hide hid
  clear h hid
  go_enter Tryz.func84, Tryz.ntmps84
  go_wp2
  go_loopw [3] (fun tv wr => ∃ (k : Nat) (Ok : List Nat), k ≤ A.wait.length ∧ Vol wr vb (toldA A k) Ok ∧ Chg (fun b => b ∈ O) w wr ∧ (∀ b ∈ Ok, b ∈ O ∨ w.heap.size ≤ b) ∧ Handed wr w.heap.size tv (numb A.lastC (A.wait.take k)) Ok) (fun tv _ => match tv with | .slice _ n _ => A.wait.length - n | _ => 0)
  case atStart => exact ⟨0, O, Nat.zero_le _, by simpa [toldA, numb] using unhide HV, Chg.refl _ _, fun b hb => Or.inl hb, ⟨World.ownsRow_nil _ _ _ _, by simp [dBlk], by simp [numb]⟩⟩
  case round =>
    obtain ⟨k, Ok, hk, hvk, hck, hok, hhk⟩ := hrel
    obtain ⟨G, hG, hGO, hGn, hGd⟩ := id hvk
    have c7 : wr.cell? ⟨vb, 7, none⟩ = some (.map (some G.mb)) := hG.blk.cell 7
    have hlen := fun ty => run_len_told (P := Tryz.prog) told_under hG.map ty
    have htl : (toldA A k).told.length = A.told.length + k := by simp [toldA, numb_len]; omega
    rw [htl] at hlen
    have hi1 : ((A.told.length + k : Nat) : Int) < 64 := by omega
    have hsz := hck.size
    rcases Nat.lt_or_ge k A.wait.length with hlt | hge
    · obtain ⟨c, hc⟩ : ∃ c, A.wait[k]? = some c := ⟨A.wait[k], List.getElem?_eq_getElem hlt⟩
      have hck' : A.wait[k] = c := by rw [List.getElem?_eq_getElem hlt] at hc; exact Option.some.inj hc
      have hdr : (toldA A k).wait = c :: A.wait.drop (k + 1) := by show A.wait.drop k = _; rw [List.drop_eq_getElem_cons hlt, hck']
      have HT := hide (wait_take vb (toldA A k) Ok c (A.wait.drop (k + 1)) wr hvk hdr)
      have HCK := hide hck
      have HOK := hide hok
      have HHK := hide hhk
      have hvlt := hvk.lt
      have HVLT := hide hvlt
      have htk : numb A.lastC (A.wait.take (k + 1)) = numb A.lastC (A.wait.take k) ++ [{ c with id := ((A.lastC + k : Nat) : Int) + 1 }] := by
        rw [List.take_succ_eq_append_getElem hlt, hck', numb_snoc, List.length_take, Nat.min_eq_left (Nat.le_of_lt hlt)]
      have HTK := hide htk
      clear hvk hck hok hhk hG hGO hGn hGd htl hdr hc hck' htk hvlt
      go_wp2_with fail
      refine (unhide HT).mono ?_
      rintro e w1 ⟨rfl, hd1, O1, v1, ch1, o1, hdo⟩
      obtain ⟨da, dn, dc, hdd⟩ := data_sl hd1
      obtain ⟨cid, ckd, cdk, cse, cda⟩ := c
      simp only at hdd
      subst hdd
      obtain ⟨G1, hG1, hGO1, hGn1, hGd1⟩ := id v1
      have c8 : w1.cell? ⟨vb, 8, none⟩ = some (.int .i64 ((A.lastC + k : Nat) : Int)) := hG1.blk.cell 8
      have f8 := hG1.blk.free 8
      have hs1 := ch1.size
      have hvl1 := hG1.blk.lt
      have hci : ((A.lastC + k : Nat) : Int) ≤ 200000 := by omega
      have hci0 : (0 : Int) ≤ ((A.lastC + k : Nat) : Int) := by omega
      generalize hN : A.lastC + k = N at *
      unfold Cmd.cells
      obtain ⟨O2, v2, ch2, o2⟩ := vol_set (A' := { toldA A k with wait := A.wait.drop (k + 1), lastC := N + 1 }) v1 8 (.int .i64 ((N : Int) + 1)) (fun G => by unfold volC; simp) rfl rfl rfl rfl rfl
      have hs0 : (w1.setCell ⟨vb, 8, none⟩ (.int .i64 ((N : Int) + 1))).heap.size = w1.heap.size := by simp
      have hbn : Below (w1.setCell ⟨vb, 8, none⟩ (.int .i64 ((N : Int) + 1))).heap.size (w1.setCell ⟨vb, 8, none⟩ (.int .i64 ((N : Int) + 1))) (((w1.setCell ⟨vb, 8, none⟩ (.int .i64 ((N : Int) + 1))).alloc (.cells #[.int .i64 ((N : Int) + 1), .int .i64 ckd, .int .i64 cdk, .int .i64 cse, .slice da dn dc] 91)).alloc (.cells #[.int .i64 ((N : Int) + 1), .int .i64 ckd, .int .i64 cdk, .int .i64 cse, .slice da dn dc] 91)) := ((Below.refl _ _).alloc (Nat.le_refl _) _).alloc (by simp) _
      have hsz2 : (((w1.setCell ⟨vb, 8, none⟩ (.int .i64 ((N : Int) + 1))).alloc (.cells #[.int .i64 ((N : Int) + 1), .int .i64 ckd, .int .i64 cdk, .int .i64 cse, .slice da dn dc] 91)).alloc (.cells #[.int .i64 ((N : Int) + 1), .int .i64 ckd, .int .i64 cdk, .int .i64 cse, .slice da dn dc] 91)).heap.size = w1.heap.size + 1 + 1 := by simp
      have hkl : Blk (((w1.setCell ⟨vb, 8, none⟩ (.int .i64 ((N : Int) + 1))).alloc (.cells #[.int .i64 ((N : Int) + 1), .int .i64 ckd, .int .i64 cdk, .int .i64 cse, .slice da dn dc] 91)).alloc (.cells #[.int .i64 ((N : Int) + 1), .int .i64 ckd, .int .i64 cdk, .int .i64 cse, .slice da dn dc] 91)) w1.heap.size #[.int .i64 ((N : Int) + 1), .int .i64 ckd, .int .i64 cdk, .int .i64 cse, .slice da dn dc] 91 := by
        have := (Blk.new (w1.setCell ⟨vb, 8, none⟩ (.int .i64 ((N : Int) + 1))) #[.int .i64 ((N : Int) + 1), .int .i64 ckd, .int .i64 cdk, .int .i64 cse, .slice da dn dc] 91).alloc (.cells #[.int .i64 ((N : Int) + 1), .int .i64 ckd, .int .i64 cdk, .int .i64 cse, .slice da dn dc] 91)
        rw [hs0] at this
        exact this
      have hka : Blk (((w1.setCell ⟨vb, 8, none⟩ (.int .i64 ((N : Int) + 1))).alloc (.cells #[.int .i64 ((N : Int) + 1), .int .i64 ckd, .int .i64 cdk, .int .i64 cse, .slice da dn dc] 91)).alloc (.cells #[.int .i64 ((N : Int) + 1), .int .i64 ckd, .int .i64 cdk, .int .i64 cse, .slice da dn dc] 91)) (w1.heap.size + 1) #[.int .i64 ((N : Int) + 1), .int .i64 ckd, .int .i64 cdk, .int .i64 cse, .slice da dn dc] 91 := by
        have := Blk.new ((w1.setCell ⟨vb, 8, none⟩ (.int .i64 ((N : Int) + 1))).alloc (.cells #[.int .i64 ((N : Int) + 1), .int .i64 ckd, .int .i64 cdk, .int .i64 cse, .slice da dn dc] 91)) #[.int .i64 ((N : Int) + 1), .int .i64 ckd, .int .i64 cdk, .int .i64 cse, .slice da dn dc] 91
        rw [World.size_alloc, hs0] at this
        exact this
      have hu3 : ∀ b ∈ dBlk u3, b < wr.heap.size := fun b hb => by obtain ⟨_, cs, hk⟩ := row_blk (unhide HHK).row b hb; exact hk.lt
      have hh2 : Handed (((w1.setCell ⟨vb, 8, none⟩ (.int .i64 ((N : Int) + 1))).alloc (.cells #[.int .i64 ((N : Int) + 1), .int .i64 ckd, .int .i64 cdk, .int .i64 cse, .slice da dn dc] 91)).alloc (.cells #[.int .i64 ((N : Int) + 1), .int .i64 ckd, .int .i64 cdk, .int .i64 cse, .slice da dn dc] 91)) w.heap.size u3 (numb A.lastC (A.wait.take k)) O2 := (((unhide HHK).step ch1 o1).step ch2 o2).step (Chg.of_new hbn) (fun b hb => Or.inl hb)
      have hd2 : DataIn (((w1.setCell ⟨vb, 8, none⟩ (.int .i64 ((N : Int) + 1))).alloc (.cells #[.int .i64 ((N : Int) + 1), .int .i64 ckd, .int .i64 cdk, .int .i64 cse, .slice da dn dc] 91)).alloc (.cells #[.int .i64 ((N : Int) + 1), .int .i64 ckd, .int .i64 cdk, .int .i64 cse, .slice da dn dc] 91)) ⟨cid, ckd, cdk, cse, .slice da dn dc⟩ := ((hd1.keep ch2 (fun b hb _ _ => (hdo b hb).2)).keep (X := fun _ => False) (Chg.of_new hbn) (fun _ _ _ _ => id))
      have hdo2 : ∀ b ∈ dBlk (.slice da dn dc), b ∉ O2 := fun b hb ho => by
        have := hd1.lt b hb
        rcases o2 b ho with q | q
        · exact (hdo b hb).2 q
        · omega
      have hch2 : Chg (fun b => b ∈ O) w (((w1.setCell ⟨vb, 8, none⟩ (.int .i64 ((N : Int) + 1))).alloc (.cells #[.int .i64 ((N : Int) + 1), .int .i64 ckd, .int .i64 cdk, .int .i64 cse, .slice da dn dc] 91)).alloc (.cells #[.int .i64 ((N : Int) + 1), .int .i64 ckd, .int .i64 cdk, .int .i64 cse, .slice da dn dc] 91)) := chg_new (((unhide HCK).trans ch1 (unhide HOK)).trans ch2 (fun b hb => by
        rcases o1 b hb with q | q
        · exact unhide HOK b q
        · exact Or.inr (by omega))) hbn
      have hO2 : ∀ b ∈ O2, b ∈ O ∨ w.heap.size ≤ b := fun b hb => by
        rcases o2 b hb with q | q
        · rcases o1 b q with q | q
          · exact unhide HOK b q
          · exact Or.inr (by omega)
        · exact Or.inr (by omega)
      have hv2 := v2.new hbn
      have hlt2 : ∀ b ∈ O2, b < w1.heap.size := fun b hb => by have := v2.lt b hb; omega
      have HH2 := hide hh2
      have HD2 := hide hd2
      have HDO2 := hide hdo2
      have HCH2 := hide hch2
      have HO2 := hide hO2
      have HV2 := hide hv2
      have HLT2 := hide hlt2
      have HKL := hide hkl
      have HU3 := hide hu3
      have HSZ2 := hide hsz2
      have HN1 : Hid (∀ j u, ([.int .i64 ((N : Int) + 1), .int .i64 ckd, .int .i64 cdk, .int .i64 cse, .slice da dn dc] : List Value)[j]? = some u → (((w1.setCell ⟨vb, 8, none⟩ (.int .i64 ((N : Int) + 1))).alloc (.cells #[.int .i64 ((N : Int) + 1), .int .i64 ckd, .int .i64 cdk, .int .i64 cse, .slice da dn dc] 91)).alloc (.cells #[.int .i64 ((N : Int) + 1), .int .i64 ckd, .int .i64 cdk, .int .i64 cse, .slice da dn dc] 91)).cell? ((⟨w1.heap.size + 1, 0, none⟩ : Addr).add j) = some u) := fun j u hj => by rw [Addr.add_mid, Nat.zero_add, hka.cell]; simpa using hj
      have HNO : Hid (∀ u ∈ ([.int .i64 ((N : Int) + 1), .int .i64 ckd, .int .i64 cdk, .int .i64 cse, .slice da dn dc] : List Value), u.oneCell' = true) := fun u hu => by simp only [List.mem_cons, List.not_mem_nil, or_false] at hu; rcases hu with rfl | rfl | rfl | rfl | rfl <;> rfl
      have hnl : (numb A.lastC (A.wait.take k)).length = k := by rw [numb_len, List.length_take]; omega
      clear HT c7 hlen hG1 hGO1 hGn1 hGd1 v1 ch1 o1 hdo hd1 v2 ch2 o2 hs0 hbn hsz2 hkl hka hu3 hh2 hd2 hdo2 hch2 hO2 hv2 hlt2 HCK HOK HHK HVLT
      have HU3E : Hid (∃ a c, u3 = .slice a k c) := by
        rcases (unhide HH2).row.2 with ⟨e1, e2⟩ | ⟨g, cap, cur, e1, _⟩
        · exact ⟨none, 0, by rw [e1, ← hnl, e2]⟩
        · exact ⟨_, cap, by rw [e1, hnl]⟩
      have HNL := hide hnl
      clear hnl
      generalize hLd : numb A.lastC (A.wait.take k) = Ld at *
      have HLD := hide hLd
      clear hLd
      go_wp2_with (at_builtin; refine wpList_append_lies _ rfl (.tmp 33) (.tmp 35) 87 rfl w.heap.size 91 iC _ 5 56 Tryz.underlying87 hiC hzC0 hzC1 hzC2 rfl (by decide) u3 Ld.length (Ld.flatMap Cmd.cells) rfl (unhide HH2).row ⟨w1.heap.size + 1, 0, none⟩ 1 1 [.int .i64 ((N : Int) + 1), .int .i64 ckd, .int .i64 cdk, .int .i64 cse, .slice da dn dc] rfl rfl (unhide HN1) (unhide HNO) (by decide) (by rw [unhide HNL]; unfold maxLen; omega) (by rw [unhide HNL]; omega) (by have := (unhide HCH2).size; exact this) (w1.heap.size + 1 + 1) (unhide HSZ2) ?_)
      intro g2 c2 w4 hown hgrow hat hlt4
      generalize (((w1.setCell ⟨vb, 8, none⟩ (.int .i64 ((N : Int) + 1))).alloc (.cells #[.int .i64 ((N : Int) + 1), .int .i64 ckd, .int .i64 cdk, .int .i64 cse, .slice da dn dc] 91)).alloc (.cells #[.int .i64 ((N : Int) + 1), .int .i64 ckd, .int .i64 cdk, .int .i64 cse, .slice da dn dc] 91)) = w2 at *
      have hgw : Chg (fun b => b ∈ dBlk u3) w2 w4 := (Chg.refl _ _).grown hgrow (fun g hg => Or.inl (own_dBlk _ g hg))
      have hno3 := (unhide HH2).rno
      have hrw3 := row_blk (unhide HH2).row
      have hs4 := hgw.size
      have hw1s := unhide HSZ2
      have hv4 := (unhide HV2).chg hgw (fun b hb hx => hno3 b hx hb)
      have hc4 : Chg (fun b => b ∈ O) w w4 := (unhide HCH2).trans hgw (fun b hb => Or.inr (hrw3 b hb).1)
      have hk4 : Blk w4 w1.heap.size #[.int .i64 ((N : Int) + 1), .int .i64 ckd, .int .i64 cdk, .int .i64 cse, .slice da dn dc] 91 := (unhide HKL).chg hgw (fun hx => by have := unhide HU3 _ hx; omega)
      have hdk : ∀ d, DataIn w2 d → DataIn w4 d := fun d hd => hd.keep hgw (fun b _ cs hbk hx => by
        obtain ⟨_, cs', hk'⟩ := hrw3 b hx
        have := (Blk.same hbk hk').2
        revert this; decide)
      have hg2 : g2 ∉ O2 := fun ho => by
        rcases hat with q | q
        · exact hno3 g2 (own_dBlk _ _ q) ho
        · have := unhide HLT2 _ ho; omega
      have hg2w : g2 ≠ w1.heap.size := fun e => by
        rcases hat with q | q
        · have := unhide HU3 _ (own_dBlk _ _ q); omega
        · omega
      have hh4 : Handed w4 w.heap.size (.slice (some ⟨g2, 0, none⟩) (Ld.length + 1) c2) (Ld ++ [⟨(N : Int) + 1, ckd, cdk, cse, .slice da dn dc⟩]) O2 := by
        refine ⟨?_, fun b hb => ?_, fun d hd => ?_⟩
        · rw [List.length_append, List.flatMap_append]
          exact hown
        · simp only [dBlk, List.mem_singleton] at hb
          rw [hb]; exact hg2
        · rcases List.mem_append.1 hd with q | q
          · exact ⟨hdk d ((unhide HH2).dat d q).1, ((unhide HH2).dat d q).2⟩
          · rw [List.mem_singleton] at q
            rw [q]
            exact ⟨hdk _ (unhide HD2), unhide HDO2⟩
      have hwn : w1.heap.size ∉ O2 := fun ho => by have := unhide HLT2 _ ho; omega
      have hwc : w.heap.size ≤ w1.heap.size := by omega
      have k4 : w4.cell? ⟨w1.heap.size, 4, none⟩ = some (.slice da dn dc) := hk4.cell 4
      have f4 := hk4.free 4
      have HK4 := hide hk4
      have HV4 := hide hv4
      have HC4 := hide hc4
      have HH4 := hide hh4
      have hs4' : w1.heap.size + 1 + 1 ≤ w4.heap.size := by omega
      clear hown hgrow hat hlt4 hgw hno3 hrw3 hv4 hc4 hk4 hdk hh4 HH2 HV2 HCH2 HKL HD2 HDO2 HN1 HNO c8 f8 HU3 HSZ2 hw1s hs4 hg2
      go_wp2
      refine region_tail 7 (by kernel_rfl) (by kernel_rfl) ?_
      rintro w6 hw6
      have hch6 : Chg (fun b => b = w1.heap.size) w4 w6 := by rw [hw6]; exact (Chg.setCell (X := fun b => b = w1.heap.size) (Chg.refl _ w4) ⟨w1.heap.size, 4, none⟩ (.slice none 0 0) (Or.inl rfl)).drew
      have hk6 : Blk w6 w1.heap.size #[.int .i64 ((N : Int) + 1), .int .i64 ckd, .int .i64 cdk, .int .i64 cse, .slice none 0 0] 91 := by rw [hw6]; exact ((unhide HK4).set 4 (.slice none 0 0)).drew
      have hv6 := (unhide HV4).chg hch6 (fun b hb e => hwn (e ▸ hb))
      have hc6 : Chg (fun b => b ∈ O) w w6 := (unhide HC4).trans hch6 (fun b hb => Or.inr (by omega))
      have hh6 : Handed w6 w.heap.size (.slice (some ⟨g2, 0, none⟩) (Ld.length + 1) c2) (Ld ++ [⟨(N : Int) + 1, ckd, cdk, cse, .slice da dn dc⟩]) O2 := by
        refine ⟨ownsRow_at (unhide HH4).row (fun g hg => ?_), (unhide HH4).rno, fun d hd => ⟨((unhide HH4).dat d hd).1.keep hch6 (fun b _ cs hbk e => ?_), ((unhide HH4).dat d hd).2⟩⟩
        · obtain ⟨_, cs, hk⟩ := row_blk (unhide HH4).row g hg
          simp only [dBlk, List.mem_singleton] at hg
          exact hch6.block g hk.lt (by rw [hg]; exact hg2w)
        · subst e
          have := (Blk.same hbk (unhide HK4)).2
          revert this; decide
      obtain ⟨G6, hG6, hGO6, hGn6, hGd6⟩ := id hv6
      have c7 : w6.cell? ⟨vb, 7, none⟩ = some (.map (some G6.mb)) := hG6.blk.cell 7
      have d0 : w6.cell? ⟨w1.heap.size, 0, none⟩ = some (.int .i64 ((N : Int) + 1)) := hk6.cell 0
      have d1 : w6.cell? ⟨w1.heap.size, 1, none⟩ = some (.int .i64 ckd) := hk6.cell 1
      have d2 : w6.cell? ⟨w1.heap.size, 2, none⟩ = some (.int .i64 cdk) := hk6.cell 2
      have d3 : w6.cell? ⟨w1.heap.size, 3, none⟩ = some (.int .i64 cse) := hk6.cell 3
      have d4 : w6.cell? ⟨w1.heap.size, 4, none⟩ = some (.slice none 0 0) := hk6.cell 4
      have hnone : (toldA A k).told.findIdx? (fun d => d.id == (N : Int) + 1) = none := by
        rw [List.findIdx?_eq_none_iff]
        intro d hd
        have hle : d.id ≤ (N : Int) := by
          rcases List.mem_append.1 hd with q | q
          · have := unhide HID d q; omega
          · obtain ⟨d', hd', rfl⟩ := List.mem_map.1 q
            have := (numb_id _ _ d' hd').2
            rw [List.length_take] at this
            show d'.id ≤ _
            omega
        simp only [beq_eq_false_iff_ne]
        omega
      obtain ⟨ob, hup, hmp⟩ := run_update_told (P := Tryz.prog) told_under int_under hG6.map ⟨(N : Int) + 1, ckd, cdk, cse, .slice none 0 0⟩ hnone
      simp only [Cmd.cells] at hup
      have hst := vol_told hG6 hGO6 hGn6 hGd6 ob _ hmp
      have HST := hide hst
      have HC6 := hide hc6
      have HH6 := hide hh6
      have hs6 := hch6.size
      clear hw6 hch6 hk6 hv6 hc6 hh6 hG6 hGO6 hGn6 hGd6 hnone hmp hst k4 f4 HK4 HV4 HC4 HH4
      simp only [List.take_succ_cons, List.take_zero, List.drop_succ_cons, List.drop_zero]
      repeat (refine wpStill_step (fun K hK => ?_); go_simp; (try go_ints); refine hK _ ?_; clear hK K)
      refine wpStill_nil ?_
      go_wp2
      clear c7 d0 d1 d2 d3 d4 hup
      obtain ⟨O7, v7, c7, o7⟩ := unhide HST
      go_roundw
      case rel =>
        refine ⟨k + 1, O7, by omega, ?_, (unhide HC6).trans c7 (unhide HO2), fun b hb => ?_, ?_⟩
        · have e : toldA A (k + 1) = { toldA A k with wait := A.wait.drop (k + 1), lastC := N + 1, told := (toldA A k).told ++ [⟨(N : Int) + 1, ckd, cdk, cse, .slice none 0 0⟩] } := by
            unfold toldA
            rw [unhide HTK]
            rw [unhide HLD]
            simp [noData, hN, ← Nat.add_assoc]
          rw [e]
          exact v7
        · rcases o7 b hb with q | q
          · exact unhide HO2 b q
          · exact Or.inr (by omega)
        · rw [unhide HTK]
          exact (unhide HH6).step c7 o7
      case measure =>
        obtain ⟨a3, cc3, e3⟩ := unhide HU3E
        rw [unhide HNL, e3]
        simp
        omega
    · obtain rfl : k = A.wait.length := by omega
      have hw0 : (toldA A A.wait.length).wait = [] := by simp [toldA]
      have c6 : wr.cell? ⟨vb, 4 + 2, none⟩ = some (.int .i64 0) := (hG.blk.cell 6).trans (by show some (Value.int .i64 ((toldA A A.wait.length).wait.length : Int)) = _; rw [hw0]; rfl)
      rw [List.take_length] at hhk
      have HVK := hide hvk
      have HCK := hide hck
      have HOK := hide hok
      have HHK := hide hhk
      have HT := hide (takeC_none vb 4 wr c6)
      clear hvk hck hok hhk hG hGO hGn hGd htl hw0 c6
      go_wp2_with (go_at_call 110; refine (unhide HT).mono ?_; rintro e w2 ⟨rfl, hb2⟩; have HB2 := hide hb2; clear hb2 HT)
      go_ret
      have hbn : Below wr.heap.size wr (w2.alloc (.cells #[.int .i64 0, .int .i64 0, .int .i64 0, .int .i64 0, .slice none 0 0] 91)) := (unhide HB2).alloc (unhide HB2).size _
      exact ⟨_, Ok, rfl, (unhide HVK).new hbn, chg_new (unhide HCK) hbn, unhide HOK, (unhide HHK).step (Chg.of_new hbn) (fun b hb => Or.inl hb)⟩

end Go.Proofs.YtdcinlkkjbclmaaGreat
