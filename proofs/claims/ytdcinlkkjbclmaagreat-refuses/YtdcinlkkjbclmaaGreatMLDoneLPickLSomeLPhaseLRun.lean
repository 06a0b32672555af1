/- A command that is out is done: the law and the volume behind it. -/
import Derived.Test.YtdcinlkkjbclmaaGreatLCarry
import Derived.Test.YtdcinlkkjbclmaaGreatVBase
namespace Go.Proofs.YtdcinlkkjbclmaaGreat
open Go.RowKit

theorem find_at : ∀ (L : List Cmd) (k : Nat) (c : Cmd), (L.map (fun x => x.id)).Nodup → L[k]? = some c → L.findIdx? (fun x => x.id == c.id) = some k
  | [], k, c, _, h => by simp at h
  | x :: r, 0, c, _, h => by
    simp only [List.getElem?_cons_zero, Option.some.injEq] at h
    subst h
    simp [List.findIdx?_cons]
  | x :: r, k + 1, c, hn, h => by
    simp only [List.getElem?_cons_succ] at h
    rw [List.map_cons, List.nodup_cons] at hn
    have hne : x.id ≠ c.id := fun e => hn.1 (List.mem_map.2 ⟨c, List.mem_of_getElem? h, e.symm⟩)
    rw [List.findIdx?_cons, find_at r k c hn.2 h]
    simp [hne]
theorem find_none (L : List Cmd) (k : Nat) (c : Cmd) (hn : (L.map (fun x => x.id)).Nodup) (h : L[k]? = some c) : (L.eraseIdx k).findIdx? (fun x => x.id == c.id) = none := by
  rw [List.findIdx?_eq_none_iff]
  intro x hx
  rw [List.mem_eraseIdx_iff_getElem?] at hx
  obtain ⟨i, hi, hx⟩ := hx
  rw [beq_eq_false_iff_ne]
  intro e
  have h1 := find_at L i x hn hx
  have h2 := find_at L k c hn h
  rw [e, h2] at h1
  exact hi (Option.some.inj h1).symm
theorem opn_ne {w : World} {tb hb vb : Nat} {nx : Value} {fr : Bool} (h : OpenT w tb hb vb nx fr) (b : Nat) (cs : Array Value) (t : TypeId) (hk : Blk w b cs t) (ht : t ≠ 139) : b ≠ tb ∧ b ≠ hb := by
  refine ⟨fun e => ?_, fun e => ?_⟩
  · subst e
    obtain ⟨⟨cs2, q, _⟩, _⟩ := h
    exact ht (Blk.same hk q).2
  · subst e
    obtain ⟨_, ⟨es, clock, q, _⟩⟩ := h
    rw [Blk, q] at hk
    cases hk
theorem lwT_no {t : TypeId} (h : lwT t) : t ≠ 139 := by rintro rfl; revert h; unfold lwT; decide
theorem rsT_no {t : TypeId} (h : rsT t) : t ≠ 139 := by rintro rfl; revert h; unfold rsT dskT; decide

set_option maxHeartbeats 2000000 in
theorem carry_any (wb : Nat) (X : LX) (us : List Value) (kk : List Int) (cus : List Value) (ckk : List Int) (T : List Tl) (db : Nat → Nat) (F : Nat → Nat → Prop) (vb tb hb : Nat) (A : VA) (O : List Nat) (nx : Value) (k d : Nat) (t : Tl) (P : VA → World → Prop) (w : World) (h : LSt w wb X us kk cus ckk T db F vb A O) (ht : OpenT w tb hb vb nx true) (hto : tb ∉ O) (hho : hb ∉ O) (hD4 : 4 ≤ X.D) (hD : X.D ≤ 8) (hS : X.S ≤ 6) (htime : X.time ≤ 900) (hdone : X.done ≤ 600) (hT60 : T.length ≤ 60)
    (hk : T[k]? = some t) (hd : d < X.D) (htd : t.c.disk = (d : Int)) (hse : t.c.sector = 0) (hkd : t.c.kind = 2 ∨ t.c.kind = 3) (hT : A.told = T.map (fun t => noData t.c)) (hnd : (T.map (fun t => t.c.id)).Nodup)
    (hP : ∀ A' w' w'', P A' w' → Chg (fun _ => False) w' w'' → P A' w'')
    (hrun : ∀ w2 O2, Vol w2 vb { A with told := A.told.eraseIdx k } O2 → OpenT w2 tb hb vb nx true → tb ∉ O2 → hb ∉ O2 → Calls Tryz.prog 78 #[.pointer (some ⟨vb, 0, none⟩)] w2 fun e w' => e = .returned (.tuple #[]) ∧ ∃ A' O', Vol w' vb A' O' ∧ Chg (fun b => b ∈ O2 ∨ b = tb) w2 w' ∧ (∀ b ∈ O', b ∈ O2 ∨ w2.heap.size ≤ b) ∧ A'.told = A.told.eraseIdx k ∧ P A' w') :
    Calls Tryz.prog 27 #[.pointer (some ⟨wb, 0, none⟩), .int .i64 (k : Int)] w fun e w' => e = .returned (.bool true) ∧ ∃ X' F' A' O', LSt w' wb X' us kk cus ckk (T.eraseIdx k) db F' vb A' O' ∧ SameX X X' ∧ X'.last = X.last ∧ X'.n = X.n ∧ X'.time = X.time + 1 ∧ X'.done = X.done + 1 ∧ P A' w' ∧ A'.told = A.told.eraseIdx k ∧ tb ∉ O' ∧ hb ∉ O' ∧
      Chg (fun b => AMem wb X us cus T F O b ∨ b = tb) w w' ∧ ∀ b, AMem wb X' us cus (T.eraseIdx k) F' O' b → AMem wb X us cus T F O b ∨ w.heap.size ≤ b := by
  have htl : tb < w.heap.size := block_lt_of_cell ht.c0
  have hhl := ht.map.lt
  have hlt := h.vol.lt
  have lT : ∀ b, LMem wb X us cus b → b ≠ tb ∧ b ≠ hb := fun b hb' => by
    obtain ⟨cs, t', hk', ht'⟩ := h.lw.typ b hb'
    exact opn_ne ht b cs t' hk' (lwT_no ht')
  have rT : ∀ b, RMem X T F b → b ≠ tb ∧ b ≠ hb := fun b hb' => by
    obtain ⟨cs, t', hk', ht'⟩ := h.rs.typ b hb'
    exact opn_ne ht b cs t' hk' (rsT_no ht')
  have hwl : LMem wb X us cus wb := Or.inl rfl
  have hFR : ∀ b, F d b → RMem X T F b := fun b hf => Or.inr (Or.inr (Or.inr (Or.inl ⟨d, hd, hf⟩)))
  have hpR : RMem X T F X.pb := Or.inr (Or.inr (Or.inr (Or.inr (Or.inr (Or.inr rfl)))))
  have hTk : A.told[k]? = some (noData t.c) := by rw [hT, List.getElem?_map, hk]; rfl
  have hnd' : (A.told.map (fun x => x.id)).Nodup := by
    rw [hT, List.map_map]
    exact hnd
  have hidx := find_at A.told k (noData t.c) hnd' hTk
  have hnone := find_none A.told k (noData t.c) hnd' hTk
  have hFd : ∀ b, F d b → ¬ LMem wb X us cus b := fun b hf hl => h.lr b hl (hFR b hf)
  -- what lies beside the disk
  have pbk : ∀ w', Chg (fun x => x = wb ∨ F d x) w w' → Blk w' X.pb #[.pointer (some ⟨vb, 0, none⟩)] 81 := fun w' hc => h.rs.pv.chg hc (fun hx => by
    rcases hx with hx | hx
    · exact h.lr wb hwl (hx ▸ hpR)
    · obtain ⟨cs, t', hk', ht'⟩ := (h.rs.dk d hd).typ _ hx
      have := (Blk.same h.rs.pv hk').2
      subst this
      revert ht'; unfold dskT; decide)
  refine carry_walk wb X.pb X T k d t db (F d) X.done (fun x => x ∈ O ∨ x = tb) (fun wm o G w2 => ∃ A' O', Vol w2 vb A' O' ∧ (∀ b ∈ O', b ∈ O ∨ wm.heap.size ≤ b) ∧ A'.told = A.told.eraseIdx k ∧ P A' w2) _ w rfl h.lw.blk hD4 hD hS (by omega) (by omega) hT60 (by omega) h.rs.out h.rs.dat h.rs.ds (h.rs.dk d hd) h.rs.st hk hd htd hse hkd (fun x hx => ?_) (fun wm o G hct => ?_) (fun wm o G w2 w3 hct cY q1 cF => ?_) (fun wm o G w2 w5 hct cY q1 cF => ?_)
  · rcases hx with hx | hx
    · exact ⟨hlt x hx, fun e => h.lo wb hwl (e ▸ hx)⟩
    · exact ⟨by omega, fun e => (lT wb hwl).1 (e ▸ hx)⟩
  · have hvm : Vol wm vb A O := h.vol.chg hct.chg (fun b hb' hx => by
      rcases hx with hx | hx
      · exact h.lo wb hwl (hx ▸ hb')
      · exact h.ro b (hFR b hx) hb')
    have htm : OpenT wm tb hb vb nx true := ht.chg hct.chg (fun hx => by
      rcases hx with hx | hx
      · exact (lT wb hwl).1 hx.symm
      · exact (rT tb (hFR tb hx)).1 rfl) (fun hx => by
      rcases hx with hx | hx
      · exact (lT wb hwl).2 hx.symm
      · exact (rT hb (hFR hb hx)).2 rfl)
    have hsm := hct.chg.size
    refine (wrapDone X.pb vb t.c.id true (.slice none 0 0) 0 (fun w2 => Chg (fun x => x ∈ O ∨ x = tb) wm w2 ∧ ∃ A' O', Vol w2 vb A' O' ∧ (∀ b ∈ O', b ∈ O ∨ wm.heap.size ≤ b) ∧ A'.told = A.told.eraseIdx k ∧ P A' w2) wm ((pbk wm hct.chg).cell 0) (done_ok vb A O t.c.id t.c.kind t.c.disk t.c.sector k (.slice none 0 0) _ wm hvm hidx hTk (by rcases hkd with q | q <;> rw [q] <;> decide) ⟨none, 0, 0, rfl⟩ (fun w1 O1 v1 c1 o1 => ?_))).mono (fun e w' hh => ⟨hh.1, hh.2.1, hh.2.2⟩)
    have hs1 := c1.size
    have hto1 : tb ∉ O1 := fun ho => by rcases o1 _ ho with q | q; exact hto q; omega
    have hho1 : hb ∉ O1 := fun ho => by rcases o1 _ ho with q | q; exact hho q; omega
    refine (hrun w1 O1 v1 (htm.chg c1 hto hho) hto1 hho1).mono ?_
    rintro e w' ⟨rfl, A', O', v', c', o', e', p'⟩
    refine ⟨rfl, (c1.mono (fun x _ hx => Or.inl hx)).trans c' (fun x hx => ?_), A', O', v', fun b hb' => ?_, e', p'⟩
    · rcases hx with hx | hx
      · rcases o1 x hx with q | q
        · exact Or.inl (Or.inl q)
        · exact Or.inr q
      · exact Or.inl (Or.inr hx)
    · rcases o' b hb' with q | q
      · exact o1 b q
      · exact Or.inr (by omega)
  · obtain ⟨A', O', v', o', e', p'⟩ := q1
    have hpb3 : Blk w3 X.pb #[.pointer (some ⟨vb, 0, none⟩)] 81 := ((pbk wm hct.chg).chg cY (fun hx => by
      rcases hx with hx | hx
      · exact h.ro _ hpR hx
      · exact (rT _ hpR).1 hx)).chg cF id
    refine (wrapDone X.pb vb t.c.id true (.slice none 0 0) 1 (fun w4 => Chg (fun _ => False) w3 w4) w3 (hpb3.cell 0) ((done_none vb A' O' t.c.id true (.slice none 0 0) w3 (v'.chg cF (fun _ _ => id)) (by rw [e']; exact hnone)).mono (fun e w' hh => ⟨hh.1, Chg.of_new hh.2⟩)))
  · obtain ⟨A', O', v', o', e', p'⟩ := q1
    have hsm := hct.chg.size
    have hs2 := cY.size
    have hO2 := v'.lt
    have C25 : Chg (fun x => x ∈ O ∨ x = tb) wm w5 := cY.trans cF (fun _ h => h.elim)
    have CA : Chg (fun x => (x = wb ∨ F d x) ∨ x ∈ O ∨ x = tb) w w5 := (hct.chg.mono (fun x _ hx => Or.inl hx)).trans C25 (fun x hx => Or.inl (Or.inr hx))
    have nL : ∀ b, LMem wb X us cus b → b ≠ wb → ¬ ((b = wb ∨ F d b) ∨ b ∈ O ∨ b = tb) := fun b hl hne hx => by
      rcases hx with (hx | hx) | hx | hx
      · exact hne hx
      · exact hFd b hx hl
      · exact h.lo b hl hx
      · exact (lT b hl).1 hx
    have nLt : ∀ b cs t', LMem wb X us cus b → Blk w b cs t' → t' ≠ 56 → ¬ ((b = wb ∨ F d b) ∨ b ∈ O ∨ b = tb) := fun b cs t' hl hk' ht' => nL b hl (fun e => by subst e; exact ht' (Blk.same hk' h.lw.blk).2)
    have nRt : ∀ b, RMem X T F b → ¬ F d b → ¬ ((b = wb ∨ F d b) ∨ b ∈ O ∨ b = tb) := fun b hr hf hx => by
      rcases hx with (hx | hx) | hx | hx
      · exact h.lr wb hwl (hx ▸ hr)
      · exact hf hx
      · exact h.ro b hr hx
      · exact (rT b hr).1 hx
    have nF : ∀ b cs t', Blk w b cs t' → ¬ dskT t' → ¬ F d b := fun b cs t' hk' ht' hf => by
      obtain ⟨cs', t2, hk2, ht2⟩ := (h.rs.dk d hd).typ b hf
      exact ht' ((Blk.same hk' hk2).2 ▸ ht2)
    have nRr : ∀ (t' : TypeId) (m : Nat) (v : Value) (l : Nat) (xs : List Value), w.ownsRow 0 t' m v l xs → ¬ dskT t' → (∀ g, v.ownBlock = some g → RMem X T F g) → ∀ g, v.ownBlock = some g → ¬ ((g = wb ∨ F d g) ∨ g ∈ O ∨ g = tb) := fun t' m v l xs ho ht' hr g hg => by
      obtain ⟨c, hc⟩ := own_blk ho g hg
      exact nRt g (hr g hg) (nF g c t' hc ht')
    have hlo : ∀ g, o.ownBlock = some g → w.heap.size ≤ g ∧ g < wm.heap.size := fun g hg => by
      obtain ⟨c, hc⟩ := own_blk hct.row g hg
      exact ⟨hct.new g hg, hc.lt⟩
    have hGl : ∀ g, G g → F d g ∨ (w.heap.size ≤ g ∧ g < wm.heap.size) := fun g hg => by
      rcases hct.dnew g hg with q | q
      · exact Or.inl q
      · exact Or.inr ⟨q, hct.dsk.lt g hg⟩
    have hsub : ∀ t' ∈ T.eraseIdx k, t' ∈ T := fun t' ht' => (List.eraseIdx_sublist T k).subset ht'
    have rm' : ∀ b, RMem { X with out := o, time := X.time + 1, done := X.done + 1 } (T.eraseIdx k) (updF F d G) b → RMem X T F b ∨ (w.heap.size ≤ b ∧ b < wm.heap.size) := fun b hb' => by
      rcases hb' with hb' | hb' | hb' | ⟨i, hi, hb'⟩ | hb' | hb' | hb'
      · exact Or.inr (hlo b hb')
      · obtain ⟨t', ht', hb'⟩ := tl_mem.1 hb'
        exact Or.inl (Or.inr (Or.inl (tl_mem.2 ⟨t', hsub t' ht', hb'⟩)))
      · exact Or.inl (Or.inr (Or.inr (Or.inl hb')))
      · unfold updF at hb'
        split at hb'
        · rcases hGl b hb' with q | q
          · exact Or.inl (hFR b q)
          · exact Or.inr q
        · exact Or.inl (Or.inr (Or.inr (Or.inr (Or.inl ⟨i, hi, hb'⟩))))
      · exact Or.inl (Or.inr (Or.inr (Or.inr (Or.inr (Or.inl hb')))))
      · exact Or.inl (Or.inr (Or.inr (Or.inr (Or.inr (Or.inr (Or.inl hb'))))))
      · exact Or.inl (Or.inr (Or.inr (Or.inr (Or.inr (Or.inr (Or.inr hb'))))))
    refine ⟨{ X with out := o, time := X.time + 1, done := X.done + 1 }, updF F d G, A', O', ⟨⟨?_, h.lw.bk.chg CA (fun g hg => ?_) (fun g hg => ?_) (fun u hu g hg => ?_), h.lw.cb.chg CA (fun g hg => ?_) (fun g hg => ?_) (fun u hu g hg => ?_), h.lw.ne⟩, ⟨?_, fun t' ht' => ?_, own_chg h.rs.ds CA (nRr _ _ _ _ _ h.rs.ds (by unfold dskT; decide) (fun g hg => Or.inr (Or.inr (Or.inl hg)))), fun i hi => ?_, fun i j g hi hj hne hf hf' => ?_, own_chg h.rs.st CA (nRr _ _ _ _ _ h.rs.st (by unfold dskT; decide) (fun g hg => Or.inr (Or.inr (Or.inr (Or.inr (Or.inl hg)))))), own_chg h.rs.kn CA (nRr _ _ _ _ _ h.rs.kn (by unfold dskT; decide) (fun g hg => Or.inr (Or.inr (Or.inr (Or.inr (Or.inr (Or.inl hg))))))), h.rs.pv.chg CA (nRt _ hpR (nF _ _ _ h.rs.pv (by unfold dskT; decide)))⟩, v'.chg cF (fun _ _ => id), fun b hl hr => ?_, fun b hl ho => ?_, fun b hr ho => ?_⟩, ⟨rfl, rfl, rfl, rfl, rfl, rfl, rfl, rfl, rfl⟩, rfl, rfl, rfl, rfl, hP A' w2 w5 p' cF, e', fun ho => ?_, fun ho => ?_, CA.mono (fun x _ hx => ?_), fun b hb' => ?_⟩
    · exact hct.blk.chg C25 (fun hx => by
        rcases hx with hx | hx
        · exact h.lo wb hwl hx
        · exact (lT wb hwl).1 hx)
    · obtain ⟨c, hc⟩ := own_blk h.lw.bk.row g hg; exact nLt g c _ (Or.inr (Or.inl hg)) hc (by decide)
    · obtain ⟨c, hc⟩ := own_blk h.lw.bk.key g hg; exact nLt g c _ (Or.inr (Or.inr (Or.inl hg))) hc (by decide)
    · obtain ⟨c, hc⟩ := h.lw.bk.typ u hu g hg; exact nLt g c _ (Or.inr (Or.inr (Or.inr (Or.inr (Or.inr (Or.inl ⟨u, hu, hg⟩)))))) hc (by decide)
    · obtain ⟨c, hc⟩ := own_blk h.lw.cb.row g hg; exact nLt g c _ (Or.inr (Or.inr (Or.inr (Or.inl hg)))) hc (by decide)
    · obtain ⟨c, hc⟩ := own_blk h.lw.cb.key g hg; exact nLt g c _ (Or.inr (Or.inr (Or.inr (Or.inr (Or.inl hg))))) hc (by decide)
    · obtain ⟨c, hc⟩ := h.lw.cb.typ u hu g hg; exact nLt g c _ (Or.inr (Or.inr (Or.inr (Or.inr (Or.inr (Or.inr ⟨u, hu, hg⟩)))))) hc (by decide)
    · exact own_chg hct.row C25 (fun g hg hx => by
        have := (hlo g hg).1
        rcases hx with hx | hx
        · have := hlt g hx; omega
        · omega)
    · refine data_chg (h.rs.dat t' (hsub t' ht')) CA (fun b hb' => ?_)
      obtain ⟨xs, ho, _⟩ := id (h.rs.dat t' (hsub t' ht'))
      obtain ⟨c, hc⟩ := own_blk ho b ((data_ob (h.rs.dat t' (hsub t' ht')) b).2 hb')
      exact nRt b (Or.inr (Or.inl (tl_mem.2 ⟨t', hsub t' ht', hb'⟩))) (nF b c _ hc (by unfold dskT; decide))
    · unfold updF
      split
      · rename_i e
        subst e
        exact hct.dsk.chg C25 (fun g hg hx => by
          rcases hGl g hg with q | q
          · rcases hx with hx | hx
            · exact h.ro g (hFR g q) hx
            · exact (rT g (hFR g q)).1 hx
          · rcases hx with hx | hx
            · have := hlt g hx; omega
            · omega)
      · rename_i e
        exact ((h.rs.dk i hi).chg CA (fun g hg => nRt g (Or.inr (Or.inr (Or.inr (Or.inl ⟨i, hi, hg⟩)))) (fun hf => h.rs.sep i d g hi hd e hg hf))).mono (by show X.done ≤ X.done + 1; omega)
    · unfold updF at hf hf'
      split at hf
      · rename_i e
        rw [if_neg (fun e' => hne (e.trans e'.symm))] at hf'
        rcases hGl g hf with q | q
        · exact h.rs.sep d j g hd hj (fun e' => hne (e.trans e')) q hf'
        · have := (h.rs.dk j hj).lt g hf'; omega
      · split at hf'
        · rename_i e e'
          rcases hGl g hf' with q | q
          · exact h.rs.sep i d g hi hd e hf q
          · have := (h.rs.dk i hi).lt g hf; omega
        · exact h.rs.sep i j g hi hj hne hf hf'
    · rcases rm' b hr with r | r
      · exact h.lr b hl r
      · have := h.lw.lt b hl; omega
    · rcases o' b ho with q | q
      · exact h.lo b hl q
      · have := h.lw.lt b hl; omega
    · rcases rm' b hr with r | r
      · rcases o' b ho with q | q
        · exact h.ro b r q
        · have := h.rs.lt b r; omega
      · rcases o' b ho with q | q
        · have := hlt b q; omega
        · omega
    · rcases o' _ ho with q | q
      · exact hto q
      · omega
    · rcases o' _ ho with q | q
      · exact hho q
      · omega
    · rcases hx with (hx | hx) | hx | hx
      · exact Or.inl (Or.inl (Or.inl hx))
      · exact Or.inl (Or.inr (Or.inl (hFR x hx)))
      · exact Or.inl (Or.inr (Or.inr hx))
      · exact Or.inr hx
    · rcases hb' with hb' | hb' | hb'
      · exact Or.inl (Or.inl hb')
      · rcases rm' b hb' with r | r
        · exact Or.inl (Or.inr (Or.inl r))
        · exact Or.inr r.1
      · rcases o' b hb' with q | q
        · exact Or.inl (Or.inr (Or.inr q))
        · exact Or.inr (by omega)

end Go.Proofs.YtdcinlkkjbclmaaGreat

/- platterlaw's own: pick, mix. -/
namespace Go.Proofs.YtdcinlkkjbclmaaGreat
open Go.RowKit

def pickAt (c n : Int) : Int := (if c < 0 then -(c + 1) else c) % n
theorem pickAt_bd (c n : Int) (hn : 0 < n) : 0 ≤ pickAt c n ∧ pickAt c n < n := by
  unfold pickAt
  exact ⟨Int.emod_nonneg _ (by omega), Int.emod_lt_of_pos _ hn⟩
theorem pick_any (c n : Int) (w : World) (hn : 0 < n) (hc1 : -9223372036854775808 ≤ c) (hc2 : c ≤ 9223372036854775807) (hn2 : n ≤ 1000000000000000) :
    Calls Tryz.prog 21 #[.int .i64 c, .int .i64 n] w fun e w' => e = .returned (.int .i64 (pickAt c n)) ∧ w' = w := by
  by_cases h : c < 0
  · have hp : Hid (pickAt c n = -((c + 1).tmod n)) := by unfold pickAt; rw [if_pos h, ← Int.tmod_eq_emod_of_nonneg (by omega), Int.neg_tmod]; exact rfl
    go_enter Tryz.func21, Tryz.ntmps21
    go_wp2
    go_ret
    exact ⟨by rw [unhide hp]; rfl, rfl⟩
  · have hp : Hid (pickAt c n = c % n) := by unfold pickAt; rw [if_neg h]; exact rfl
    go_enter Tryz.func21, Tryz.ntmps21
    go_wp2
    go_ret
    exact ⟨by rw [unhide hp]; rfl, rfl⟩
def mixV (a b : Int) : Int := (pickAt a 1073741824 * 2654435 + pickAt b 1048576 * 40503 + 12345) % 1000003 * 7919 + (pickAt a 1073741824 * 2654435 + pickAt b 1048576 * 40503 + 12345) / 1000003
theorem mixV_bd (a b : Int) : 0 ≤ mixV a b ∧ mixV a b ≤ 100000000000000 := by
  obtain ⟨p1, p2⟩ := pickAt_bd a 1073741824 (by omega)
  obtain ⟨p3, p4⟩ := pickAt_bd b 1048576 (by omega)
  unfold mixV
  generalize pickAt a 1073741824 = x at *
  generalize pickAt b 1048576 = y at *
  constructor <;> omega
set_option maxRecDepth 100000 in
set_option maxHeartbeats 2000000 in
theorem mix_any (a b : Int) (w : World) (ha1 : -9223372036854775808 ≤ a) (ha2 : a ≤ 9223372036854775807) (hb1 : -9223372036854775808 ≤ b) (hb2 : b ≤ 9223372036854775807) :
    Calls Tryz.prog 56 #[.int .i64 a, .int .i64 b] w fun e w' => e = .returned (.int .i64 (mixV a b)) ∧ w' = w := by
  obtain ⟨p1, p2⟩ := pickAt_bd a 1073741824 (by omega)
  obtain ⟨p3, p4⟩ := pickAt_bd b 1048576 (by omega)
  go_enter Tryz.func56, Tryz.ntmps56
  go_wp2_with fail
  refine (pick_any _ _ _ (by omega) ha1 ha2 (by omega)).mono ?_
  rintro e w1 ⟨rfl, rfl⟩
  go_wp2_with fail
  refine (pick_any _ _ _ (by omega) hb1 hb2 (by omega)).mono ?_
  rintro e w1 ⟨rfl, rfl⟩
  obtain ⟨x, hx⟩ : ∃ x, x = pickAt a 1073741824 := ⟨_, rfl⟩
  obtain ⟨y, hy⟩ : ∃ y, y = pickAt b 1048576 := ⟨_, rfl⟩
  rw [← hx] at p1 p2 ⊢
  rw [← hy] at p3 p4 ⊢
  have HX := hide hx
  have HY := hide hy
  clear hx hy
  go_wp2
  go_ret
  refine ⟨?_, rfl⟩
  unfold mixV
  rw [← unhide HX, ← unhide HY]
  rfl

end Go.Proofs.YtdcinlkkjbclmaaGreat

/- Commands are told and done till there are none. -/
namespace Go.Proofs.YtdcinlkkjbclmaaGreat
open Go.RowKit

theorem wrap_bd (x : Int) : -9223372036854775808 ≤ IntKind.i64.wrap x ∧ IntKind.i64.wrap x ≤ 9223372036854775807 := by
  rw [IntKind.wrap_i64]
  omega

set_option maxRecDepth 100000 in
set_option maxHeartbeats 4000000 in
theorem some_walk (wb : Nat) (a b : Int) (J : Nat → World → Prop) (R : World → Prop) (ha1 : -9223372036854775808 ≤ a) (ha2 : a ≤ 9223372036854775807)
    (hJ : ∀ m w, J m w → Calls Tryz.prog 26 #[.pointer (some ⟨wb, 0, none⟩)] w fun e w1 => e = .returned (.bool true) ∧ ((∃ oa oc, w1.cell? ⟨wb, 8, none⟩ = some (.slice oa 0 oc) ∧ R w1) ∨
      ∃ m' oa on oc, m = m' + 1 ∧ 0 < on ∧ on ≤ 60 ∧ w1.cell? ⟨wb, 8, none⟩ = some (.slice oa on oc) ∧ ∀ (k : Nat) w2, k < on → Chg (fun _ => False) w1 w2 → Calls Tryz.prog 27 #[.pointer (some ⟨wb, 0, none⟩), .int .i64 (k : Int)] w2 fun e w3 => e = .returned (.bool true) ∧ J m' w3)) (M : Nat) (hM : M ≤ 100) (w : World) (h : J M w) :
    Calls Tryz.prog 28 #[.pointer (some ⟨wb, 0, none⟩), .int .i64 a, .int .i64 b, .int .i64 6000] w fun e w' => e = .returned (.bool true) ∧ R w' := by
  have HJ := hide hJ
  have H0 := hide h
  clear hJ h
  go_enter Tryz.func28, Tryz.ntmps28
  go_wp2
  go_loopw [9] (fun iv wr => ∃ (i m : Nat), i + m = M ∧ iv = .int .i64 (i : Int) ∧ J m wr) (fun i _ => 6000 - (intOf i).toNat)
  case atStart => exact ⟨0, M, by omega, rfl, unhide H0⟩
  case round =>
    clear H0
    obtain ⟨i, m, him, rfl, hj⟩ := hrel
    have HT := hide (unhide HJ m wr hj)
    have ii0 : (0 : Int) ≤ (i : Int) := by omega
    have ii1 : (i : Int) < 6000 := by omega
    have ii2 : (i : Int) ≤ 100 := by omega
    clear hj
    go_wp2_with fail
    refine (unhide HT).mono ?_
    rintro e w1 ⟨rfl, hh⟩
    clear HT
    rcases hh with ⟨oa, oc, c8, hR⟩ | ⟨m', oa, on, oc, hm, hon, hon6, c8, hk⟩
    · have HR := hide hR
      clear hR
      go_wp2
      go_ret
      exact ⟨rfl, unhide HR⟩
    · have HK := hide hk
      have ion : (on : Int) ≤ 60 := by omega
      have ion0 : (0 : Int) < (on : Int) := by omega
      have hne : ¬ on = 0 := by omega
      have hb0 : ((on : Int) == 0) = false := beq_eq_false_iff_ne.2 (by omega)
      have HM := hide hm
      obtain ⟨bw1, bw2⟩ := wrap_bd (b + (i : Int))
      obtain ⟨mv1, mv2⟩ := mixV_bd a (IntKind.i64.wrap (b + (i : Int)))
      obtain ⟨pv1, pv2⟩ := pickAt_bd (mixV a (IntKind.i64.wrap (b + (i : Int)))) (on : Int) ion0
      clear hk hm
      go_wp2_with fail
      go_quiet (first | (go_at_call 56; exact Calls.quiet_of_same (mix_any _ _ _ ha1 ha2 bw1 bw2)) | (go_at_call 21; exact Calls.quiet_of_same (pick_any _ _ _ ion0 (by omega) (by omega) (by omega))))
      obtain ⟨k, hk⟩ := Int.eq_ofNat_of_zero_le pv1
      rw [hk]
      rw [hk] at pv1 pv2
      have hkon : k < on := by omega
      have HX2 : Hid (Chg (fun _ => False) w1 (w1.drewN nq)) := (Chg.refl _ _).drewN nq
      generalize w1.drewN nq = w2 at *
      have HCA := hide (unhide HK k w2 hkon (unhide HX2))
      clear hk mv1 mv2 bw1 bw2 c8
      go_wp2_with fail
      refine (unhide HCA).mono ?_
      rintro e w3 ⟨rfl, hj3⟩
      have HJ3 := hide hj3
      clear hj3 HCA
      go_wp2
      go_roundw
      case rel => exact ⟨i + 1, m', by have := unhide HM; omega, by go_num, unhide HJ3⟩
      case measure => simp [intOf]; omega

end Go.Proofs.YtdcinlkkjbclmaaGreat

/- A new volume and its disks come to rest: first the labels are written, then they are made safe. -/
namespace Go.Proofs.YtdcinlkkjbclmaaGreat
open Go.RowKit

theorem LSt.same {w w' : World} {wb : Nat} {X : LX} {us : List Value} {kk : List Int} {cus : List Value} {ckk : List Int} {T : List Tl} {db : Nat → Nat} {F : Nat → Nat → Prop} {vb : Nat} {A : VA} {O : List Nat} (h : LSt w wb X us kk cus ckk T db F vb A O) (hc : Chg (fun _ => False) w w') : LSt w' wb X us kk cus ckk T db F vb A O :=
  ⟨h.lw.chg hc (fun _ _ => id), h.rs.chg hc (fun _ _ => id), h.vol.chg hc (fun _ _ => id), h.lr, h.lo, h.ro⟩
def TShp (D : Nat) (t : Tl) : Prop := (∃ d : Nat, d < D ∧ t.c.disk = (d : Int)) ∧ t.c.sector = 0 ∧ (t.c.kind = 2 ∨ t.c.kind = 3)
theorem numb_nodup (k : Nat) (l : List Cmd) : ((numb k l).map (fun c => c.id)).Nodup := by
  induction l generalizing k with
  | nil => simp [numb]
  | cons x r ih =>
    simp only [numb, List.map_cons, List.nodup_cons]
    refine ⟨fun hm => ?_, ih (k + 1)⟩
    obtain ⟨c, hc, e⟩ := List.mem_map.1 hm
    have := (numb_id (k + 1) r c hc).1
    omega
theorem erase_one {α : Type} (l : List α) (k : Nat) (h : l.length = 1) (hk : k < l.length) : l.eraseIdx k = [] := by
  match l, k, h with
  | [x], 0, _ => rfl
  | [x], k + 1, _ => simp at hk
theorem erase_map {α β : Type} (f : α → β) (l : List α) (k : Nat) : (l.map f).eraseIdx k = (l.eraseIdx k).map f := by
  induction l generalizing k with
  | nil => rfl
  | cons x r ih =>
    cases k with
    | zero => rfl
    | succ k => simp only [List.map_cons, List.eraseIdx_cons_succ, ih]
/-- one command of a batch is done -/
theorem batch_one (wb : Nat) (X : LX) (us : List Value) (kk : List Int) (cus : List Value) (ckk : List Int) (T : List Tl) (db : Nat → Nat) (F : Nat → Nat → Prop) (D S lc vb tb hb : Nat) (O : List Nat) (nx : Value) (k : Nat) (E : VA → World → Prop) (w : World) (h : LSt w wb X us kk cus ckk T db F vb { opA D S tb lc with told := T.map (fun t => noData t.c) } O) (ht : OpenT w tb hb vb nx true) (hto : tb ∉ O) (hho : hb ∉ O) (eD : X.D = D) (hD4 : 4 ≤ D) (hD : D ≤ 8) (hS : X.S ≤ 6) (htime : X.time ≤ 900) (hdone : X.done ≤ 600) (hT60 : T.length ≤ 60)
    (hk : k < T.length) (hsh : ∀ t ∈ T, TShp D t) (hnd : (T.map (fun t => t.c.id)).Nodup) (hE : ∀ A' w' w'', E A' w' → Chg (fun _ => False) w' w'' → E A' w'')
    (hend : T.length = 1 → ∀ w3 O3, Vol w3 vb (opA D S tb lc) O3 → OpenT w3 tb hb vb nx true → tb ∉ O3 → hb ∉ O3 → Calls Tryz.prog 78 #[.pointer (some ⟨vb, 0, none⟩)] w3 fun e w' => e = .returned (.tuple #[]) ∧ ∃ A' O', Vol w' vb A' O' ∧ Chg (fun b => b ∈ O3 ∨ b = tb) w3 w' ∧ (∀ b ∈ O', b ∈ O3 ∨ w3.heap.size ≤ b) ∧ A'.told = [] ∧ E A' w') :
    Calls Tryz.prog 27 #[.pointer (some ⟨wb, 0, none⟩), .int .i64 (k : Int)] w fun e w' => e = .returned (.bool true) ∧ ∃ X' F' A' O', LSt w' wb X' us kk cus ckk (T.eraseIdx k) db F' vb A' O' ∧ SameX X X' ∧ X'.last = X.last ∧ X'.n = X.n ∧ X'.time = X.time + 1 ∧ X'.done = X.done + 1 ∧ tb ∉ O' ∧ hb ∉ O' ∧
      Chg (fun b => AMem wb X us cus T F O b ∨ b = tb) w w' ∧ (∀ b, AMem wb X' us cus (T.eraseIdx k) F' O' b → AMem wb X us cus T F O b ∨ w.heap.size ≤ b) ∧
      ((T.length ≠ 1 ∧ A' = { opA D S tb lc with told := (T.eraseIdx k).map (fun t => noData t.c) } ∧ OpenT w' tb hb vb nx true) ∨ (T.length = 1 ∧ E A' w')) := by
  obtain ⟨t, hkt⟩ : ∃ t, T[k]? = some t := ⟨_, List.getElem?_eq_getElem hk⟩
  obtain ⟨⟨d, hd, htd⟩, hse, hkd⟩ := hsh t (List.mem_of_getElem? hkt)
  have hem : (T.map (fun t => noData t.c)).eraseIdx k = (T.eraseIdx k).map (fun t => noData t.c) := erase_map _ _ _
  refine (carry_any wb X us kk cus ckk T db F vb tb hb _ O nx k d t (fun A' w' => (T.length ≠ 1 ∧ A' = { opA D S tb lc with told := (T.eraseIdx k).map (fun t => noData t.c) } ∧ OpenT w' tb hb vb nx true) ∨ (T.length = 1 ∧ E A' w')) w h ht hto hho (by omega) (by omega) hS htime hdone hT60 hkt (by omega) htd hse hkd rfl hnd (fun A' w' w'' hp hc => ?_) (fun w2 O2 v2 t2 a2 b2 => ?_)).mono ?_
  · rcases hp with ⟨p1, p2, p3⟩ | ⟨p1, p2⟩
    · exact Or.inl ⟨p1, p2, p3.chg hc id id⟩
    · exact Or.inr ⟨p1, hE A' w' w'' p2 hc⟩
  · by_cases h1 : T.length = 1
    · have he : (T.map (fun t => noData t.c)).eraseIdx k = [] := erase_one _ _ (by simpa using h1) (by simpa using hk)
      have v2' : Vol w2 vb (opA D S tb lc) O2 := by
        have : ({ ({ opA D S tb lc with told := T.map (fun t => noData t.c) } : VA) with told := (T.map (fun t => noData t.c)).eraseIdx k } : VA) = opA D S tb lc := by rw [he]; rfl
        rw [← this]; exact v2
      refine (hend h1 w2 O2 v2' t2 a2 b2).mono ?_
      rintro e w' ⟨rfl, A', O', v', c', o', e', p'⟩
      exact ⟨rfl, A', O', v', c', o', by rw [e', he], Or.inr ⟨h1, p'⟩⟩
    · refine (run_idle vb _ O2 w2 v2 (Or.inr (Or.inr (Or.inl ⟨(show (0 : Int) ≠ 2 by decide), rfl, fun e => ?_⟩)))).mono ?_
      · have := congrArg List.length e
        rw [List.length_eraseIdx, if_pos (by simpa using hk)] at this
        simp at this
        omega
      · rintro e w' ⟨rfl, rfl⟩
        exact ⟨rfl, _, O2, v2, Chg.refl _ _, fun b hb' => Or.inl hb', rfl, Or.inl ⟨h1, by rw [hem], t2⟩⟩
  · rintro e w' ⟨rfl, X', F', A', O', q1, q2, q3, q4, q5, q6, q7, q8, q9, q10, q11, q12⟩
    exact ⟨rfl, X', F', A', O', q1, q2, q3, q4, q5, q6, q9, q10, q11, q12, q7⟩

end Go.Proofs.YtdcinlkkjbclmaaGreat

/- A new volume and its disks come to rest. -/
namespace Go.Proofs.YtdcinlkkjbclmaaGreat
open Go.RowKit

def FixX (X : LX) (D S : Nat) : Prop := X.D = D ∧ X.S = S ∧ X.rs = .slice none 0 0 ∧ X.kr = .slice none 0 0 ∧ X.formed = false
theorem FixX.same {X X' : LX} {D S : Nat} (h : FixX X D S) (hs : SameX X X') : FixX X' D S := by
  obtain ⟨a1, a2, a3, a4, a5⟩ := h
  obtain ⟨b1, b2, b3, b4, b5, b6, b7, b8, b9⟩ := hs
  exact ⟨b1.trans a1, b2.trans a2, b8.trans a3, b9.trans a4, b5.trans a5⟩
structure Cnt (X : LX) (us cus : List Value) (ckk : List Int) (lc D j : Nat) : Prop where
  keys : ∀ q ∈ ckk, 0 ≤ q ∧ q ≤ 1000
  last : X.last = lc
  num : X.n = lc
  ulen : us.length = 4 * lc
  time : X.time ≤ 2 * j
  done : X.done ≤ j
  clen : cus.length ≤ 4 * j
  most : lc ≤ 2 * D
/-- all that the law and its volume lie in is new since W0 -/
structure Env (W0 w : World) (wb : Nat) (X : LX) (us cus : List Value) (T : List Tl) (F : Nat → Nat → Prop) (O : List Nat) (tb hb : Nat) : Prop where
  bel : Below W0.heap.size W0 w
  all : ∀ b, AMem wb X us cus T F O b → W0.heap.size ≤ b
  tnew : W0.heap.size ≤ tb
  hnew : W0.heap.size ≤ hb
theorem Env.step {W0 w w' : World} {wb : Nat} {X X' : LX} {us us' cus cus' : List Value} {T T' : List Tl} {F F' : Nat → Nat → Prop} {O O' : List Nat} {tb hb : Nat} (h : Env W0 w wb X us cus T F O tb hb) (hc : Chg (fun b => AMem wb X us cus T F O b ∨ b = tb) w w') (hn : ∀ b, AMem wb X' us' cus' T' F' O' b → AMem wb X us cus T F O b ∨ w.heap.size ≤ b) : Env W0 w' wb X' us' cus' T' F' O' tb hb := by
  have hs := h.bel.size
  refine ⟨h.bel.trans (hc.below W0.heap.size hs (fun b hb' hx => ?_)), fun b hb' => ?_, h.tnew, h.hnew⟩
  · rcases hx with hx | hx
    · have := h.all b hx; omega
    · have := h.tnew; omega
  · rcases hn b hb' with q | q
    · exact h.all b q
    · omega
def nxOf (tb p : Nat) : Value := if p = 2 then nxLabels tb else nxReady tb
/-- m commands are to be done yet -/
def Ph (W0 : World) (wb D S vb tb hb : Nat) (db : Nat → Nat) (m : Nat) (w : World) : Prop := ∃ X us kk cus ckk T F lc A O, LSt w wb X us kk cus ckk T db F vb A O ∧ FixX X D S ∧ Env W0 w wb X us cus T F O tb hb ∧ tb ∉ O ∧ hb ∉ O ∧ m ≤ 2 * D ∧ Cnt X us cus ckk lc D (2 * D - m) ∧ (T.map (fun t => t.c.id)).Nodup ∧ (∀ t ∈ T, t.c.id ≤ (lc : Int)) ∧ (∀ t ∈ T, TShp D t) ∧
  ((∃ p Wt, (p = 1 ∨ p = 2) ∧ m = (p - 1) * D + (Wt.length + T.length) ∧ 0 < Wt.length + T.length ∧ Wt.length + T.length ≤ D ∧ lc + Wt.length + (p - 1) * D ≤ 2 * D ∧ A = { opA D S tb lc with wait := Wt, told := T.map (fun t => noData t.c) } ∧ OpenT w tb hb vb (nxOf tb p) true ∧ ∀ c ∈ Wt, Shp D c) ∨
   (m = 0 ∧ A = readyA D S tb lc ∧ T = []))
/-- at rest -/
def Rdy (W0 : World) (wb D S vb tb hb : Nat) (db : Nat → Nat) (w : World) : Prop := ∃ X us kk cus ckk F lc O, LSt w wb X us kk cus ckk [] db F vb (readyA D S tb lc) O ∧ FixX X D S ∧ Env W0 w wb X us cus [] F O tb hb ∧ X.n ≤ 16 ∧ us.length ≤ 64 ∧ cus.length ≤ 100 ∧ X.done ≤ 16 ∧ ∀ q ∈ ckk, 0 ≤ q ∧ q ≤ 1000
theorem list_eq {T' : List Tl} {L : List Cmd} (hl : T'.length = L.length) (he : ∀ (j : Nat) (t : Tl) (c : Cmd), T'[j]? = some t → L[j]? = some c → noData t.c = noData c) : T'.map (fun t => noData t.c) = L.map noData := by
  apply List.ext_getElem?
  intro j
  rw [List.getElem?_map, List.getElem?_map]
  rcases Nat.lt_or_ge j L.length with h | h
  · obtain ⟨t, ht⟩ : ∃ t, T'[j]? = some t := ⟨_, List.getElem?_eq_getElem (by omega)⟩
    obtain ⟨c, hc⟩ : ∃ c, L[j]? = some c := ⟨_, List.getElem?_eq_getElem h⟩
    rw [ht, hc]
    simp only [Option.map_some]
    rw [he j t c ht hc]
  · rw [List.getElem?_eq_none (by omega), List.getElem?_eq_none h]
    rfl
theorem ids_eq {T' : List Tl} {L : List Cmd} (h : T'.map (fun t => noData t.c) = L.map noData) : T'.map (fun t => t.c.id) = L.map (fun c => c.id) := by
  have := congrArg (List.map (fun c : Cmd => c.id)) h
  rw [List.map_map, List.map_map] at this
  exact this
theorem ready_ne (D S tb lc : Nat) : (readyA D S tb lc).wait = [] ∧ (readyA D S tb lc).told = [] ∧ (readyA D S tb lc).lastC = lc := ⟨rfl, rfl, rfl⟩

set_option maxHeartbeats 2000000 in
theorem ph_step (W0 : World) (wb D S vb tb hb : Nat) (db : Nat → Nat) (hD4 : 4 ≤ D) (hD : D ≤ 8) (hS : S ≤ 6) (m : Nat) (w : World) (h : Ph W0 wb D S vb tb hb db m w) :
    Calls Tryz.prog 26 #[.pointer (some ⟨wb, 0, none⟩)] w fun e w1 => e = .returned (.bool true) ∧ ((∃ oa oc, w1.cell? ⟨wb, 8, none⟩ = some (.slice oa 0 oc) ∧ Rdy W0 wb D S vb tb hb db w1) ∨
      ∃ m' oa on oc, m = m' + 1 ∧ 0 < on ∧ on ≤ 60 ∧ w1.cell? ⟨wb, 8, none⟩ = some (.slice oa on oc) ∧ ∀ (k : Nat) w2, k < on → Chg (fun _ => False) w1 w2 → Calls Tryz.prog 27 #[.pointer (some ⟨wb, 0, none⟩), .int .i64 (k : Int)] w2 fun e w3 => e = .returned (.bool true) ∧ Ph W0 wb D S vb tb hb db m' w3) := by
  obtain ⟨X, us, kk, cus, ckk, T, F, lc, A, O, hst, hfx, henv, hto, hho, hm2, hcn, hnd, hidm, hsh, hph⟩ := h
  have c1 := hcn.last
  have c2 := hcn.num
  have c3 := hcn.ulen
  have c4 := hcn.time
  have c5 := hcn.done
  have c6 := hcn.clen
  have c7 := hcn.most
  have eD := hfx.1
  have eS := hfx.2.1
  have outv : ∀ {w1 : World} {X1 : LX} {us1 : List Value} {kk1 : List Int} {cus1 : List Value} {ckk1 : List Int} {T1 : List Tl} {F1 : Nat → Nat → Prop} {A1 : VA} {O1 : List Nat}, LSt w1 wb X1 us1 kk1 cus1 ckk1 T1 db F1 vb A1 O1 → ∃ oa oc, w1.cell? ⟨wb, 8, none⟩ = some (.slice oa T1.length oc) := fun {w1 X1 us1 kk1 cus1 ckk1 T1 F1 A1 O1} h1 => by
    have h8 : w1.cell? ⟨wb, 8, none⟩ = some X1.out := h1.lw.blk.cell 8
    rcases own_get h1.rs.out with ⟨e, e2, _⟩ | ⟨g, cp, c, e, _⟩
    · exact ⟨none, 0, by rw [h8, e, e2]⟩
    · exact ⟨_, _, by rw [h8, e]⟩
  rcases hph with ⟨p, Wt, hp, hm, hpos, hle, hlcw, rfl, hop, hsw⟩ | ⟨rfl, rfl, rfl⟩
  · have hTl : T.length ≤ 8 := by omega
    refine (tell_any wb X us kk cus ckk T db F vb _ O w hst (by omega) (by omega) c1 (by show lc ≤ 50; omega) (by omega) (by omega) (by show (T.map (fun t => noData t.c)).length + Wt.length ≤ 60; rw [List.length_map]; omega) (by show Wt.length ≤ 8; omega) (fun c hc => ?_) (by rw [eD]; exact hsw) (by omega) (by omega) (by omega)).mono ?_
    · obtain ⟨t, ht, rfl⟩ := List.mem_map.1 hc
      exact hidm t ht
    rintro e w1 ⟨rfl, X1, us1, kk1, cus1, ckk1, T', O1, h1, hsx, k1, k2, k3, k4, k5, k6, kq, k7, k8, k9, k10⟩
    have hWl : T'.length = Wt.length := k7
    have k2' : X1.last = X.last + Wt.length := k2
    have k4' : X1.n = X.n + Wt.length := k4
    have k5' : us1.length = us.length + 4 * Wt.length := k5
    have hTe := list_eq (T' := T') (L := numb lc Wt) (by rw [numb_len]; exact hWl) k8
    have hA1 : toldA { opA D S tb lc with wait := Wt, told := T.map (fun t => noData t.c) } Wt.length = { opA D S tb (lc + Wt.length) with told := (T ++ T').map (fun t => noData t.c) } := by
      unfold toldA opA newA
      simp [hTe]
    have h1' : LSt w1 wb X1 us1 kk1 cus1 ckk1 (T ++ T') db F vb { opA D S tb (lc + Wt.length) with told := (T ++ T').map (fun t => noData t.c) } O1 := by rw [← hA1]; exact h1
    have henv1 : Env W0 w1 wb X1 us1 cus1 (T ++ T') F O1 tb hb := henv.step (k9.mono (fun b _ hb' => Or.inl hb')) k10
    have hon : (T ++ T').length = Wt.length + T.length := by rw [List.length_append, hWl]; omega
    have htl : tb < w.heap.size := block_lt_of_cell hop.c0
    have hhl := hop.map.lt
    have hs1 := k9.size
    have lT : ∀ b, AMem wb X us cus T F O b → b ≠ tb ∧ b ≠ hb := fun b hb' => by
      rcases hb' with hb' | hb' | hb'
      · obtain ⟨cs, t', hk', ht'⟩ := hst.lw.typ b hb'
        exact opn_ne hop b cs t' hk' (lwT_no ht')
      · obtain ⟨cs, t', hk', ht'⟩ := hst.rs.typ b hb'
        exact opn_ne hop b cs t' hk' (rsT_no ht')
      · exact ⟨fun e => hto (e ▸ hb'), fun e => hho (e ▸ hb')⟩
    have hop1 : OpenT w1 tb hb vb (nxOf tb p) true := hop.chg k9 (fun hx => (lT tb hx).1 rfl) (fun hx => (lT hb hx).2 rfl)
    have hto1 : tb ∉ O1 := fun ho => by
      rcases k10 tb (Or.inr (Or.inr ho)) with q | q
      · exact (lT tb q).1 rfl
      · omega
    have hho1 : hb ∉ O1 := fun ho => by
      rcases k10 hb (Or.inr (Or.inr ho)) with q | q
      · exact (lT hb q).2 rfl
      · omega
    have hsh1 : ∀ t ∈ T ++ T', TShp D t := fun t ht => by
      rcases List.mem_append.1 ht with q | q
      · exact hsh t q
      · obtain ⟨j, hj, e⟩ := List.getElem_of_mem q
        have hj' : j < (numb lc Wt).length := by rw [numb_len]; omega
        have hn := k8 j t _ (by rw [List.getElem?_eq_getElem hj, e]) (List.getElem?_eq_getElem hj')
        obtain ⟨d, hd, e2⟩ := numb_at lc Wt j _ (List.getElem?_eq_getElem hj')
        rw [e2] at hn
        obtain ⟨s1, s2, s3⟩ := hsw d (List.mem_of_getElem? hd)
        have f1 : t.c.disk = d.disk := by have h0 := congrArg Cmd.disk hn; exact h0
        have f2 : t.c.sector = d.sector := by have h0 := congrArg Cmd.sector hn; exact h0
        have f3 : t.c.kind = d.kind := by have h0 := congrArg Cmd.kind hn; exact h0
        refine ⟨by rw [f1]; exact s1, by rw [f2]; exact s2, ?_⟩
        rw [f3]
        rcases s3 with ⟨q, _⟩ | ⟨q, _⟩
        · exact Or.inl q
        · exact Or.inr q
    have hide' := ids_eq hTe
    have hnd1 : ((T ++ T').map (fun t => t.c.id)).Nodup := by
      rw [List.map_append, hide', List.nodup_append]
      refine ⟨hnd, numb_nodup lc Wt, fun a ha b hb' e => ?_⟩
      subst e
      obtain ⟨t, ht, rfl⟩ := List.mem_map.1 ha
      obtain ⟨c, hc, e⟩ := List.mem_map.1 hb'
      have := hidm t ht
      have := (numb_id lc Wt c hc).1
      have e' : c.id = t.c.id := e
      omega
    have hid1 : ∀ t ∈ T ++ T', t.c.id ≤ ((lc + Wt.length : Nat) : Int) := fun t ht => by
      rcases List.mem_append.1 ht with q | q
      · have := hidm t q; omega
      · have : t.c.id ∈ (numb lc Wt).map (fun c => c.id) := by rw [← hide']; exact List.mem_map.2 ⟨t, q, rfl⟩
        obtain ⟨c, hc, e⟩ := List.mem_map.1 this
        have := (numb_id lc Wt c hc).2
        have e' : c.id = t.c.id := e
        omega
    obtain ⟨oa, oc, ho8⟩ := outv h1'
    refine ⟨rfl, Or.inr ⟨m - 1, oa, (T ++ T').length, oc, by omega, by omega, by omega, ho8, fun k w2 hk hc2 => ?_⟩⟩
    have f1 := hfx.same hsx
    refine (batch_one wb X1 us1 kk1 cus1 ckk1 (T ++ T') db F D S (lc + Wt.length) vb tb hb O1 (nxOf tb p) k (fun A' w' => (p = 2 ∧ A' = { opA D S tb (lc + Wt.length) with wait := barriers D } ∧ OpenT w' tb hb vb (nxReady tb) true) ∨ (p = 1 ∧ A' = readyA D S tb (lc + Wt.length))) w2 (h1'.same hc2) (hop1.chg hc2 id id) hto1 hho1 f1.1 hD4 hD (by rw [f1.2.1]; omega) (by omega) (by omega) (by omega) hk hsh1 hnd1 (fun A' w' w'' hE hc => ?_) (fun hl1 w3 O3 v3 t3 a3 b3 => ?_)).mono ?_
    · rcases hE with ⟨q1, q2, q3⟩ | q
      · exact Or.inl ⟨q1, q2, q3.chg hc id id⟩
      · exact Or.inr q
    · rcases hp with rfl | rfl
      · refine (run_ready D S tb hb vb (lc + Wt.length) O3 w3 v3 t3 a3).mono ?_
        rintro e w' ⟨rfl, A', O', v', c', o', e'⟩
        exact ⟨rfl, A', O', v', c', o', by rw [e']; rfl, Or.inr ⟨rfl, e'⟩⟩
      · refine (run_labels D S tb hb vb (lc + Wt.length) O3 w3 (by omega) hD v3 t3 a3 b3).mono ?_
        rintro e w' ⟨rfl, A', O', v', c', o', e', t'⟩
        exact ⟨rfl, A', O', v', c', o', by rw [e']; rfl, Or.inl ⟨rfl, e', t'⟩⟩
    · rintro e w3 ⟨rfl, X3, F3, A3, O3, h3, hsx3, r1, r2, r3, r4, r5, r6, r7, r8, r9⟩
      have henv2 : Env W0 w2 wb X1 us1 cus1 (T ++ T') F O1 tb hb := henv1.step (hc2.mono (fun _ _ h => h.elim)) (fun b hb' => Or.inl hb')
      have henv3 := henv2.step r7 r8
      have hel : ((T ++ T').eraseIdx k).length = (T ++ T').length - 1 := by rw [List.length_eraseIdx, if_pos hk]
      have hsub := (List.eraseIdx_sublist (T ++ T') k)
      have hcn3 : Cnt X3 us1 cus1 ckk1 (lc + Wt.length) D (2 * D - (m - 1)) := ⟨fun q hq => by
        rcases kq q hq with q1 | q1
        · exact hcn.keys q q1
        · omega, by omega, by omega, by omega, by omega, by omega, by omega, by omega⟩
      refine ⟨rfl, X3, us1, kk1, cus1, ckk1, (T ++ T').eraseIdx k, F3, lc + Wt.length, A3, O3, h3, f1.same hsx3, henv3, r5, r6, by omega, hcn3, hnd1.sublist (hsub.map _), fun t ht => hid1 t (hsub.subset ht), fun t ht => hsh1 t (hsub.subset ht), ?_⟩
      rcases r9 with ⟨q1, q2, q3⟩ | ⟨q1, q2⟩
      · refine Or.inl ⟨p, [], hp, ?_, ?_, ?_, ?_, q2, q3, fun c hc => by cases hc⟩
        · simp only [List.length_nil, Nat.zero_add]; omega
        · simp only [List.length_nil, Nat.zero_add]; omega
        · simp only [List.length_nil, Nat.zero_add]; omega
        · simp only [List.length_nil, Nat.add_zero]; omega
      · have hnil : (T ++ T').eraseIdx k = [] := erase_one _ _ q1 hk
        rcases q2 with ⟨rfl, e3, t3⟩ | ⟨rfl, e3⟩
        · have hbl : (barriers D).length = D := by simp [barriers]
          refine Or.inl ⟨1, barriers D, Or.inl rfl, ?_, ?_, ?_, ?_, ?_, t3, fun c hc => ?_⟩
          · rw [hnil, hbl]; simp; omega
          · rw [hnil, hbl]; simp; omega
          · rw [hnil, hbl]; simp
          · rw [hbl]; simp at hlcw ⊢; omega
          · rw [hnil, e3]; rfl
          · simp only [barriers, List.mem_map, List.mem_range] at hc
            obtain ⟨j, hj, rfl⟩ := hc
            exact ⟨⟨j, hj, rfl⟩, rfl, Or.inr ⟨rfl, rfl⟩⟩
        · exact Or.inr ⟨by simp at hm; omega, e3, hnil⟩
  · refine (tell_any wb X us kk cus ckk [] db F vb _ O w hst (by omega) (by omega) c1 (by show lc ≤ 50; omega) (by omega) (by simp) (by simp [readyA, newA]) (by simp [readyA, newA]) (fun c hc => by simp [readyA, newA] at hc) (fun c hc => by simp [readyA, newA] at hc) (by omega) (by omega) (by omega)).mono ?_
    rintro e w1 ⟨rfl, X1, us1, kk1, cus1, ckk1, T', O1, h1, hsx, k1, k2, k3, k4, k5, k6, kq, k7, k8, k9, k10⟩
    have k4' : X1.n = X.n + 0 := k4
    have k5' : us1.length = us.length + 4 * 0 := k5
    have hT' : T' = [] := List.length_eq_zero_iff.1 k7
    subst hT'
    have hA1 : toldA (readyA D S tb lc) (readyA D S tb lc).wait.length = readyA D S tb lc := by
      unfold toldA readyA newA
      simp [numb]
    rw [hA1] at h1
    obtain ⟨oa, oc, ho8⟩ := outv h1
    exact ⟨rfl, Or.inl ⟨oa, oc, ho8, X1, us1, kk1, cus1, ckk1, F, lc, O1, h1, hfx.same hsx, henv.step (k9.mono (fun b _ hb' => Or.inl hb')) k10, by omega, by omega, by omega, by omega, fun q hq => by
      rcases kq q hq with q1 | q1
      · exact hcn.keys q q1
      · omega⟩⟩

end Go.Proofs.YtdcinlkkjbclmaaGreat
