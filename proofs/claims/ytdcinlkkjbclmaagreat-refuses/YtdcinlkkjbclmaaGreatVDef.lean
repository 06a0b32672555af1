/- A volume in memory: what it is (VA), where it lies (VG). -/
import Derived.Test.YtdcinlkkjbclmaaGreatMRKeepVMap
import Derived.Test.YtdcinlkkjbclmaaGreatRingR
import Derived.Test.YtdcinlkkjbclmaaGreatRingS
namespace Go.Proofs.YtdcinlkkjbclmaaGreat
open Go.RowKit

/-- what a volume is (no disk is being filled) -/
structure VA where
  stand : List Int
  stripes : Nat
  state : Int
  at' : Value
  wait : List Cmd
  told : List Cmd
  lastC : Nat
  reqs : List (List Value)
  ress : List (List Value)
  lastR : Nat
  first : Bool
/-- where it lies -/
structure VG where
  sb : Nat
  mb : Nat
  gw : Nat
  nw : Nat
  fw : Nat
  gr : Nat
  nr : Nat
  fr : Nat
  gs : Nat
  ns : Nat
  fs : Nat
def opt (g n : Nat) : List Nat := if n = 0 then [] else [g]
def VG.own (G : VG) (vb : Nat) : List Nat := [vb, G.sb, G.mb] ++ (opt G.gw G.nw ++ (opt G.gr G.nr ++ opt G.gs G.ns))
def volC (A : VA) (G : VG) : Array Value := #[.slice (some ⟨G.sb, 0, none⟩) A.stand.length A.stand.length, .int .i64 (A.stripes : Int), .int .i64 A.state, A.at', plV G.gw G.nw, .int .i64 (G.fw : Int), .int .i64 (A.wait.length : Int),
  .map (some G.mb), .int .i64 (A.lastC : Int), plV G.gr G.nr, .int .i64 (G.fr : Int), .int .i64 (A.reqs.length : Int), plV G.gs G.ns, .int .i64 (G.fs : Int), .int .i64 (A.ress.length : Int), .int .i64 (A.lastR : Int), .slice none 0 0, .int .i64 0, .int .i64 0, .bool A.first]
structure VolAt (w : World) (vb : Nat) (A : VA) (G : VG) : Prop where
  blk : Blk w vb (volC A G) 125
  std : Blk w G.sb (A.stand.map (Value.int .i64)).toArray 3
  map : MapB w G.mb A.told
  wq : RingB w 91 5 G.gw G.nw G.fw (A.wait.map Cmd.cells)
  rq : RingB w 142 19 G.gr G.nr G.fr A.reqs
  sq : RingB w 103 5 G.gs G.ns G.fs A.ress
  nd : (G.own vb).Nodup
  few : G.nw ≤ 400000 ∧ G.nr ≤ 400000 ∧ G.ns ≤ 400000
/-- the block of a slice -/
def dBlk : Value → List Nat
  | .slice (some a) _ _ => [a.block]
  | _ => []
/-- the blocks of what commands bring along -/
def dats (l : List Cmd) : List Nat := l.flatMap (fun c => dBlk c.data)
/-- what a command brings along is there: nothing, or eight bytes -/
def DataIn (w : World) (c : Cmd) : Prop := ∃ xs : List Nat, w.ownsRow 0 5 1 c.data xs.length (xs.map (fun (x : Nat) => Value.int .u8 (x : Int))) ∧ (xs.length = 0 ∨ xs.length = 8) ∧ ∀ x ∈ xs, x < 256
/-- a volume that lies in the blocks O, with what its commands bring along -/
def Vol (w : World) (vb : Nat) (A : VA) (O : List Nat) : Prop := ∃ G, VolAt w vb A G ∧ O = G.own vb ++ dats A.wait ∧ O.Nodup ∧ ∀ c ∈ A.wait, DataIn w c
/-- what a call leaves: a volume, changed in its own blocks, with new ones -/
def Step (w : World) (O : List Nat) (w' : World) (vb : Nat) (A' : VA) : Prop := ∃ O', Vol w' vb A' O' ∧ Chg (fun b => b ∈ O) w w' ∧ ∀ b ∈ O', b ∈ O ∨ w.heap.size ≤ b
/-- the same of the volume's own blocks alone -/
def Core (w : World) (O : List Nat) (w' : World) (vb : Nat) (A' : VA) : Prop := ∃ G', VolAt w' vb A' G' ∧ Chg (fun b => b ∈ O) w w' ∧ ∀ b ∈ G'.own vb, b ∈ O ∨ w.heap.size ≤ b
theorem opt_mem {b g n : Nat} : b ∈ opt g n ↔ b = g ∧ n ≠ 0 := by
  unfold opt
  split
  · rename_i h; simp [h]
  · rename_i h; simp [h]
theorem own_mem {G : VG} {vb b : Nat} : b ∈ G.own vb ↔ b = vb ∨ b = G.sb ∨ b = G.mb ∨ (b = G.gw ∧ G.nw ≠ 0) ∨ (b = G.gr ∧ G.nr ≠ 0) ∨ (b = G.gs ∧ G.ns ≠ 0) := by
  unfold VG.own
  simp only [List.mem_append, List.mem_cons, List.not_mem_nil, or_false, opt_mem]
  grind
theorem ring_chg {X : Nat → Prop} {w w' : World} {t : TypeId} {k g n f : Nat} {xs : List (List Value)} (h : RingB w t k g n f xs) (hc : Chg X w w') (hx : n ≠ 0 → ¬ X g) : RingB w' t k g n f xs := by
  rcases Nat.eq_zero_or_pos n with h0 | h0
  · have hl := h.len
    have hf := h.fst
    subst h0
    obtain rfl : xs = [] := List.length_eq_zero_iff.1 (by omega)
    obtain rfl : f = 0 := by omega
    exact RingB.nil _ _ _ _
  · exact h.chg hc (hx (by omega))
theorem VolAt.chg {X : Nat → Prop} {w w' : World} {vb : Nat} {A : VA} {G : VG} (h : VolAt w vb A G) (hc : Chg X w w') (hx : ∀ b ∈ G.own vb, ¬ X b) : VolAt w' vb A G :=
  ⟨h.blk.chg hc (hx _ (own_mem.2 (by simp))), h.std.chg hc (hx _ (own_mem.2 (by simp))), h.map.chg hc (hx _ (own_mem.2 (by simp))),
   ring_chg h.wq hc (fun hn => hx _ (own_mem.2 (by simp [hn]))), ring_chg h.rq hc (fun hn => hx _ (own_mem.2 (by simp [hn]))), ring_chg h.sq hc (fun hn => hx _ (own_mem.2 (by simp [hn]))), h.nd, h.few⟩
theorem VolAt.lt {w : World} {vb : Nat} {A : VA} {G : VG} (h : VolAt w vb A G) : ∀ b ∈ G.own vb, b < w.heap.size := by
  intro b hb
  rcases own_mem.1 hb with rfl | rfl | rfl | ⟨rfl, hn⟩ | ⟨rfl, hn⟩ | ⟨rfl, hn⟩
  · exact h.blk.lt
  · exact h.std.lt
  · exact h.map.lt
  · obtain ⟨cs, hcs, _⟩ := h.wq.blk (by omega)
    exact hcs.lt
  · obtain ⟨cs, hcs, _⟩ := h.rq.blk (by omega)
    exact hcs.lt
  · obtain ⟨cs, hcs, _⟩ := h.sq.blk (by omega)
    exact hcs.lt
theorem ownsRow_at {w w' : World} {base : Nat} {e : TypeId} {size : Nat} {v : Value} {n : Nat} {xs : List Value} (h : w.ownsRow base e size v n xs) (hb : ∀ g ∈ dBlk v, w'.heap[g]? = w.heap[g]?) : w'.ownsRow base e size v n xs := by
  obtain ⟨h1, h2⟩ := h
  refine ⟨h1, ?_⟩
  rcases h2 with h2 | ⟨g, cap, cur, rfl, hg, hh, r⟩
  · exact Or.inl h2
  · exact Or.inr ⟨g, cap, cur, rfl, hg, (hb g (by simp [dBlk])).trans hh, r⟩
theorem DataIn.lt {w : World} {c : Cmd} (h : DataIn w c) : ∀ b ∈ dBlk c.data, b < w.heap.size := by
  obtain ⟨xs, ⟨_, h2⟩, _⟩ := h
  intro b hb
  rcases h2 with ⟨h2, _⟩ | ⟨g, cap, cur, h2, _, hh, _⟩
  · rw [h2] at hb; simp [dBlk] at hb
  · rw [h2] at hb
    simp only [dBlk, List.mem_singleton] at hb
    subst hb
    exact (Array.getElem?_eq_some_iff.1 hh).1
theorem DataIn.at {w w' : World} {c : Cmd} (h : DataIn w c) (hb : ∀ g ∈ dBlk c.data, w'.heap[g]? = w.heap[g]?) : DataIn w' c := by
  obtain ⟨xs, h1, h2⟩ := h
  exact ⟨xs, ownsRow_at h1 hb, h2⟩
theorem dats_mem {l : List Cmd} {b : Nat} : b ∈ dats l ↔ ∃ c ∈ l, b ∈ dBlk c.data := by unfold dats; exact List.mem_flatMap
theorem Vol.lt {w : World} {vb : Nat} {A : VA} {O : List Nat} (h : Vol w vb A O) : ∀ b ∈ O, b < w.heap.size := by
  obtain ⟨G, h, rfl, _, hd⟩ := h
  intro b hb
  rcases List.mem_append.1 hb with hb | hb
  · exact h.lt b hb
  · obtain ⟨c, hc, hb⟩ := dats_mem.1 hb
    exact (hd c hc).lt b hb
theorem Vol.chg {X : Nat → Prop} {w w' : World} {vb : Nat} {A : VA} {O : List Nat} (h : Vol w vb A O) (hc : Chg X w w') (hx : ∀ b ∈ O, ¬ X b) : Vol w' vb A O := by
  have hlt := h.lt
  obtain ⟨G, h, rfl, hn, hd⟩ := h
  refine ⟨G, h.chg hc (fun b hb => hx b (List.mem_append_left _ hb)), rfl, hn, fun c hcm => (hd c hcm).at (fun g hg => ?_)⟩
  have hm : g ∈ G.own vb ++ dats A.wait := List.mem_append_right _ (dats_mem.2 ⟨c, hcm, hg⟩)
  exact hc.block g (hlt g hm) (hx g hm)
/-- of the volume's own blocks what is done: the volume, with what its commands bring along -/
theorem Vol.lift {w w' : World} {vb : Nat} {A A' : VA} {G : VG} (hn : (G.own vb ++ dats A.wait).Nodup) (hd : ∀ c ∈ A.wait, DataIn w c) (hc : Core w (G.own vb) w' vb A')
    (hA : ∀ c ∈ A'.wait, c ∈ A.wait ∨ (DataIn w c ∧ ∀ b ∈ dBlk c.data, b ∉ G.own vb)) (hn' : (dats A'.wait).Nodup) :
    ∃ O', Vol w' vb A' O' ∧ Chg (fun b => b ∈ G.own vb) w w' ∧ ∀ b ∈ O', b ∈ G.own vb ∨ b ∈ dats A'.wait ∨ w.heap.size ≤ b := by
  obtain ⟨G', h', hch, ho⟩ := hc
  have hin : ∀ c ∈ A'.wait, DataIn w c ∧ ∀ b ∈ dBlk c.data, b ∉ G.own vb := fun c hcm => by
    rcases hA c hcm with q | q
    · refine ⟨hd c q, fun b hb hb' => ?_⟩
      rw [List.nodup_append] at hn
      exact hn.2.2 b hb' b (dats_mem.2 ⟨c, q, hb⟩) rfl
    · exact q
  refine ⟨G'.own vb ++ dats A'.wait, ⟨G', h', rfl, ?_, fun c hcm => ?_⟩, hch, fun b hb => ?_⟩
  · rw [List.nodup_append]
    refine ⟨h'.nd, hn', fun a ha b hb e => ?_⟩
    subst e
    obtain ⟨c, hcm, hb⟩ := dats_mem.1 hb
    rcases ho a ha with q | q
    · exact (hin c hcm).2 a hb q
    · have := (hin c hcm).1.lt a hb; omega
  · refine (hin c hcm).1.at (fun g hg => hch.block g ((hin c hcm).1.lt g hg) ((hin c hcm).2 g hg))
  · rcases List.mem_append.1 hb with hb | hb
    · rcases ho b hb with q | q
      · exact Or.inl q
      · exact Or.inr (Or.inr q)
    · exact Or.inr (Or.inl hb)
theorem dats_sub {l l' : List Cmd} (h : l'.Sublist l) : (dats l').Sublist (dats l) := by
  induction h with
  | slnil => exact List.Sublist.refl _
  | cons a _ ih => exact ih.trans (List.sublist_append_right _ _)
  | cons_cons a _ ih => exact List.Sublist.append (List.Sublist.refl _) ih
/-- the commands that wait are some of those that waited -/
theorem Vol.lift_sub {w w' : World} {vb : Nat} {A A' : VA} {G : VG} (hn : (G.own vb ++ dats A.wait).Nodup) (hd : ∀ c ∈ A.wait, DataIn w c) (hc : Core w (G.own vb) w' vb A') (hs : A'.wait.Sublist A.wait) : Step w (G.own vb ++ dats A.wait) w' vb A' := by
  have hsub : (dats A'.wait).Sublist (dats A.wait) := by exact dats_sub hs
  obtain ⟨O', q1, q2, q3⟩ := Vol.lift hn hd hc (fun c hcm => Or.inl (hs.subset hcm)) (by rw [List.nodup_append] at hn; exact hn.2.1.sublist hsub)
  refine ⟨O', q1, q2.mono (fun k _ hk => List.mem_append_left _ hk), fun b hb => ?_⟩
  rcases q3 b hb with q | q | q
  · exact Or.inl (List.mem_append_left _ q)
  · exact Or.inl (List.mem_append_right _ (hsub.subset q))
  · exact Or.inr q
theorem Vol.new {w w' : World} {vb : Nat} {A : VA} {O : List Nat} (h : Vol w vb A O) (hb : Below w.heap.size w w') : Vol w' vb A O := h.chg (X := fun _ => False) (Chg.of_new hb) (fun _ _ => id)
theorem Step.refl {w : World} {vb : Nat} {A : VA} {O : List Nat} (h : Vol w vb A O) : Step w O w vb A := ⟨O, h, Chg.refl _ _, fun _ h => Or.inl h⟩
theorem Step.trans {w w1 w2 : World} {vb : Nat} {A2 : VA} {O O1 : List Nat} (hc : Chg (fun b => b ∈ O) w w1) (ho : ∀ b ∈ O1, b ∈ O ∨ w.heap.size ≤ b) (h : Step w1 O1 w2 vb A2) : Step w O w2 vb A2 := by
  obtain ⟨O2, hv, hc2, ho2⟩ := h
  refine ⟨O2, hv, hc.trans hc2 ho, fun b hb => ?_⟩
  rcases ho2 b hb with h | h
  · exact ho b h
  · exact Or.inr (Nat.le_trans hc.size h)
theorem Step.new {w w1 w2 : World} {vb : Nat} {A2 : VA} {O : List Nat} (hb : Below w.heap.size w w1) (h : Step w1 O w2 vb A2) : Step w O w2 vb A2 := Step.trans (Chg.of_new hb) (fun _ h => Or.inl h) h

structure Apart (G : VG) (vb : Nat) : Prop where
  sv : G.sb ≠ vb
  mv : G.mb ≠ vb
  sm : G.sb ≠ G.mb
  w1 : G.nw ≠ 0 → G.gw ≠ vb ∧ G.gw ≠ G.sb ∧ G.gw ≠ G.mb
  r1 : G.nr ≠ 0 → G.gr ≠ vb ∧ G.gr ≠ G.sb ∧ G.gr ≠ G.mb
  s1 : G.ns ≠ 0 → G.gs ≠ vb ∧ G.gs ≠ G.sb ∧ G.gs ≠ G.mb
  wr : G.nw ≠ 0 → G.nr ≠ 0 → G.gw ≠ G.gr
  ws : G.nw ≠ 0 → G.ns ≠ 0 → G.gw ≠ G.gs
  rs : G.nr ≠ 0 → G.ns ≠ 0 → G.gr ≠ G.gs
theorem apart_of {G : VG} {vb : Nat} (h : (G.own vb).Nodup) : Apart G vb := by
  unfold VG.own opt at h
  simp only [List.nodup_append, List.nodup_cons, List.mem_cons, List.mem_append] at h
  constructor <;> grind
theorem nodup_w {G : VG} {vb g n f : Nat} (h : (G.own vb).Nodup) (hg : ∀ b ∈ G.own vb, b = g → G.gw = g ∧ G.nw ≠ 0) : (VG.own { G with gw := g, nw := n, fw := f } vb).Nodup := by
  have hm := @own_mem G vb
  unfold VG.own opt at *
  simp only [List.nodup_append, List.nodup_cons, List.mem_cons, List.mem_append] at *
  grind
theorem nodup_r {G : VG} {vb g n f : Nat} (h : (G.own vb).Nodup) (hg : ∀ b ∈ G.own vb, b = g → G.gr = g ∧ G.nr ≠ 0) : (VG.own { G with gr := g, nr := n, fr := f } vb).Nodup := by
  have hm := @own_mem G vb
  unfold VG.own opt at *
  simp only [List.nodup_append, List.nodup_cons, List.mem_cons, List.mem_append] at *
  grind
theorem nodup_s {G : VG} {vb g n f : Nat} (h : (G.own vb).Nodup) (hg : ∀ b ∈ G.own vb, b = g → G.gs = g ∧ G.ns ≠ 0) : (VG.own { G with gs := g, ns := n, fs := f } vb).Nodup := by
  have hm := @own_mem G vb
  unfold VG.own opt at *
  simp only [List.nodup_append, List.nodup_cons, List.mem_cons, List.mem_append] at *
  grind

def waitL (A : VA) : List (List Value) := A.wait.map Cmd.cells
def reqL (A : VA) : List (List Value) := A.reqs
def resL (A : VA) : List (List Value) := A.ress
theorem ring_at_w {w : World} {vb : Nat} {A : VA} {G : VG} (h : VolAt w vb A G) : ∃ g0, RingB w 91 5 g0 G.nw G.fw (waitL A) ∧ plV G.gw G.nw = plV g0 G.nw ∧ ((G.nw ≠ 0 ∧ g0 = G.gw) ∨ (G.nw = 0 ∧ g0 = w.heap.size)) ∧ vb ≠ g0 := by
  rcases Nat.eq_zero_or_pos G.nw with h0 | h0
  · refine ⟨w.heap.size, ?_, by unfold plV; rw [if_pos h0, if_pos h0], Or.inr ⟨h0, rfl⟩, by have := h.blk.lt; omega⟩
    have hq := h.wq
    have hl := hq.len
    have hf := hq.fst
    rw [h0] at hl hf ⊢
    have e : waitL A = [] := List.length_eq_zero_iff.1 (by unfold waitL; omega)
    rw [e, show G.fw = 0 by omega]
    exact RingB.nil _ _ _ _
  · exact ⟨G.gw, h.wq, rfl, Or.inl ⟨by omega, rfl⟩, fun e => ((apart_of h.nd).w1 (by omega)).1 e.symm⟩
theorem step_w {w w' : World} {vb : Nat} {A : VA} {G : VG} {g0 g' n' f' : Nat} {l : List Cmd} (h : VolAt w vb A G) (hx0 : (G.nw ≠ 0 ∧ g0 = G.gw) ∨ (G.nw = 0 ∧ g0 = w.heap.size)) (hch : Chg (fun b => b = vb ∨ b = g0) w w')
    (hb : Blk w' vb (volC { A with wait := l } { G with gw := g', nw := n', fw := f' }) 125) (hr : RingB w' 91 5 g' n' f' (waitL { A with wait := l })) (hgn : (g' = g0 ∧ G.nw ≠ 0) ∨ w.heap.size ≤ g') (hn : n' ≤ 400000) :
    Core w (G.own vb) w' vb { A with wait := l } := by
  have hap := apart_of h.nd
  have hlt := h.lt
  have hne : ∀ b, b ∈ G.own vb → (G.nw ≠ 0 → b ≠ G.gw) → b ≠ g0 := fun b hb hn e => by
    rcases hx0 with ⟨h1, rfl⟩ | ⟨_, rfl⟩
    · exact hn h1 e
    · have := hlt b hb; omega
  have mv : vb ∈ G.own vb := own_mem.2 (Or.inl rfl)
  have ms : G.sb ∈ G.own vb := own_mem.2 (by simp)
  have mm : G.mb ∈ G.own vb := own_mem.2 (by simp)
  have mW : G.nw ≠ 0 → G.gw ∈ G.own vb := fun hn => own_mem.2 (by simp [hn])
  have mR : G.nr ≠ 0 → G.gr ∈ G.own vb := fun hn => own_mem.2 (by simp [hn])
  have mS : G.ns ≠ 0 → G.gs ∈ G.own vb := fun hn => own_mem.2 (by simp [hn])
  have hnew : ∀ b ∈ G.own vb, b = g' → G.gw = g' ∧ G.nw ≠ 0 := fun b hb e => by
    rcases hgn with ⟨h2, h3⟩ | h2
    · rcases hx0 with ⟨h4, h5⟩ | ⟨h4, _⟩
      · exact ⟨by rw [h2, h5], h4⟩
      · omega
    · have := hlt b hb; omega
  have hX : ∀ b, b ∈ G.own vb → b ≠ vb → (G.nw ≠ 0 → b ≠ G.gw) → ¬ (b = vb ∨ b = g0) := fun b hb h1 h2 h3 => h3.elim h1 (hne b hb h2)
  have hvol : VolAt w' vb { A with wait := l } { G with gw := g', nw := n', fw := f' } :=
    ⟨hb, h.std.chg hch (hX _ ms hap.sv (fun hn e => (hap.w1 hn).2.1 e.symm)), h.map.chg hch (hX _ mm hap.mv (fun hn e => (hap.w1 hn).2.2 e.symm)), hr, ring_chg h.rq hch (fun hn => hX _ (mR hn) (hap.r1 hn).1 (fun h1 e => hap.wr h1 hn e.symm)), ring_chg h.sq hch (fun hn => hX _ (mS hn) (hap.s1 hn).1 (fun h1 e => hap.ws h1 hn e.symm)), nodup_w h.nd hnew, ⟨hn, h.few.2.1, h.few.2.2⟩⟩
  refine ⟨_, hvol, hch.mono (fun k hk hx => ?_), fun b hb' => ?_⟩
  · rcases hx with rfl | rfl
    · exact mv
    · rcases hx0 with ⟨h1, rfl⟩ | ⟨_, rfl⟩
      · exact own_mem.2 (by simp [h1])
      · omega
  · have key : b = g' → b ∈ G.own vb ∨ w.heap.size ≤ b := fun e => by
      rcases hgn with ⟨h2, h3⟩ | h2
      · rcases hx0 with ⟨h4, h5⟩ | ⟨h4, _⟩
        · exact Or.inl (own_mem.2 (by rw [e, h2, h5]; simp [h4]))
        · omega
      · exact Or.inr (by omega)
    rcases own_mem.1 hb' with h1 | h1 | h1 | ⟨h1, h2⟩ | ⟨h1, h2⟩ | ⟨h1, h2⟩
    · exact Or.inl (h1 ▸ mv)
    · exact Or.inl (own_mem.2 (Or.inr (Or.inl h1)))
    · exact Or.inl (own_mem.2 (Or.inr (Or.inr (Or.inl h1))))
    · exact key h1
    · exact Or.inl (own_mem.2 (Or.inr (Or.inr (Or.inr (Or.inr (Or.inl ⟨h1, h2⟩))))))
    · exact Or.inl (own_mem.2 (Or.inr (Or.inr (Or.inr (Or.inr (Or.inr ⟨h1, h2⟩))))))
theorem ring_at_r {w : World} {vb : Nat} {A : VA} {G : VG} (h : VolAt w vb A G) : ∃ g0, RingB w 142 19 g0 G.nr G.fr (reqL A) ∧ plV G.gr G.nr = plV g0 G.nr ∧ ((G.nr ≠ 0 ∧ g0 = G.gr) ∨ (G.nr = 0 ∧ g0 = w.heap.size)) ∧ vb ≠ g0 := by
  rcases Nat.eq_zero_or_pos G.nr with h0 | h0
  · refine ⟨w.heap.size, ?_, by unfold plV; rw [if_pos h0, if_pos h0], Or.inr ⟨h0, rfl⟩, by have := h.blk.lt; omega⟩
    have hq := h.rq
    have hl := hq.len
    have hf := hq.fst
    rw [h0] at hl hf ⊢
    have e : reqL A = [] := List.length_eq_zero_iff.1 (by unfold reqL; omega)
    rw [e, show G.fr = 0 by omega]
    exact RingB.nil _ _ _ _
  · exact ⟨G.gr, h.rq, rfl, Or.inl ⟨by omega, rfl⟩, fun e => ((apart_of h.nd).r1 (by omega)).1 e.symm⟩
theorem step_r {w w' : World} {vb : Nat} {A : VA} {G : VG} {g0 g' n' f' : Nat} {l : List (List Value)} (h : VolAt w vb A G) (hx0 : (G.nr ≠ 0 ∧ g0 = G.gr) ∨ (G.nr = 0 ∧ g0 = w.heap.size)) (hch : Chg (fun b => b = vb ∨ b = g0) w w')
    (hb : Blk w' vb (volC { A with reqs := l } { G with gr := g', nr := n', fr := f' }) 125) (hr : RingB w' 142 19 g' n' f' (reqL { A with reqs := l })) (hgn : (g' = g0 ∧ G.nr ≠ 0) ∨ w.heap.size ≤ g') (hn : n' ≤ 400000) :
    Core w (G.own vb) w' vb { A with reqs := l } := by
  have hap := apart_of h.nd
  have hlt := h.lt
  have hne : ∀ b, b ∈ G.own vb → (G.nr ≠ 0 → b ≠ G.gr) → b ≠ g0 := fun b hb hn e => by
    rcases hx0 with ⟨h1, rfl⟩ | ⟨_, rfl⟩
    · exact hn h1 e
    · have := hlt b hb; omega
  have mv : vb ∈ G.own vb := own_mem.2 (Or.inl rfl)
  have ms : G.sb ∈ G.own vb := own_mem.2 (by simp)
  have mm : G.mb ∈ G.own vb := own_mem.2 (by simp)
  have mW : G.nw ≠ 0 → G.gw ∈ G.own vb := fun hn => own_mem.2 (by simp [hn])
  have mR : G.nr ≠ 0 → G.gr ∈ G.own vb := fun hn => own_mem.2 (by simp [hn])
  have mS : G.ns ≠ 0 → G.gs ∈ G.own vb := fun hn => own_mem.2 (by simp [hn])
  have hnew : ∀ b ∈ G.own vb, b = g' → G.gr = g' ∧ G.nr ≠ 0 := fun b hb e => by
    rcases hgn with ⟨h2, h3⟩ | h2
    · rcases hx0 with ⟨h4, h5⟩ | ⟨h4, _⟩
      · exact ⟨by rw [h2, h5], h4⟩
      · omega
    · have := hlt b hb; omega
  have hX : ∀ b, b ∈ G.own vb → b ≠ vb → (G.nr ≠ 0 → b ≠ G.gr) → ¬ (b = vb ∨ b = g0) := fun b hb h1 h2 h3 => h3.elim h1 (hne b hb h2)
  have hvol : VolAt w' vb { A with reqs := l } { G with gr := g', nr := n', fr := f' } :=
    ⟨hb, h.std.chg hch (hX _ ms hap.sv (fun hn e => (hap.r1 hn).2.1 e.symm)), h.map.chg hch (hX _ mm hap.mv (fun hn e => (hap.r1 hn).2.2 e.symm)), ring_chg h.wq hch (fun hn => hX _ (mW hn) (hap.w1 hn).1 (fun h1 e => hap.wr hn h1 e)), hr, ring_chg h.sq hch (fun hn => hX _ (mS hn) (hap.s1 hn).1 (fun h1 e => hap.rs h1 hn e.symm)), nodup_r h.nd hnew, ⟨h.few.1, hn, h.few.2.2⟩⟩
  refine ⟨_, hvol, hch.mono (fun k hk hx => ?_), fun b hb' => ?_⟩
  · rcases hx with rfl | rfl
    · exact mv
    · rcases hx0 with ⟨h1, rfl⟩ | ⟨_, rfl⟩
      · exact own_mem.2 (by simp [h1])
      · omega
  · have key : b = g' → b ∈ G.own vb ∨ w.heap.size ≤ b := fun e => by
      rcases hgn with ⟨h2, h3⟩ | h2
      · rcases hx0 with ⟨h4, h5⟩ | ⟨h4, _⟩
        · exact Or.inl (own_mem.2 (by rw [e, h2, h5]; simp [h4]))
        · omega
      · exact Or.inr (by omega)
    rcases own_mem.1 hb' with h1 | h1 | h1 | ⟨h1, h2⟩ | ⟨h1, h2⟩ | ⟨h1, h2⟩
    · exact Or.inl (h1 ▸ mv)
    · exact Or.inl (own_mem.2 (Or.inr (Or.inl h1)))
    · exact Or.inl (own_mem.2 (Or.inr (Or.inr (Or.inl h1))))
    · exact Or.inl (own_mem.2 (Or.inr (Or.inr (Or.inr (Or.inl ⟨h1, h2⟩)))))
    · exact key h1
    · exact Or.inl (own_mem.2 (Or.inr (Or.inr (Or.inr (Or.inr (Or.inr ⟨h1, h2⟩))))))
theorem ring_at_s {w : World} {vb : Nat} {A : VA} {G : VG} (h : VolAt w vb A G) : ∃ g0, RingB w 103 5 g0 G.ns G.fs (resL A) ∧ plV G.gs G.ns = plV g0 G.ns ∧ ((G.ns ≠ 0 ∧ g0 = G.gs) ∨ (G.ns = 0 ∧ g0 = w.heap.size)) ∧ vb ≠ g0 := by
  rcases Nat.eq_zero_or_pos G.ns with h0 | h0
  · refine ⟨w.heap.size, ?_, by unfold plV; rw [if_pos h0, if_pos h0], Or.inr ⟨h0, rfl⟩, by have := h.blk.lt; omega⟩
    have hq := h.sq
    have hl := hq.len
    have hf := hq.fst
    rw [h0] at hl hf ⊢
    have e : resL A = [] := List.length_eq_zero_iff.1 (by unfold resL; omega)
    rw [e, show G.fs = 0 by omega]
    exact RingB.nil _ _ _ _
  · exact ⟨G.gs, h.sq, rfl, Or.inl ⟨by omega, rfl⟩, fun e => ((apart_of h.nd).s1 (by omega)).1 e.symm⟩
theorem step_s {w w' : World} {vb : Nat} {A : VA} {G : VG} {g0 g' n' f' : Nat} {l : List (List Value)} (h : VolAt w vb A G) (hx0 : (G.ns ≠ 0 ∧ g0 = G.gs) ∨ (G.ns = 0 ∧ g0 = w.heap.size)) (hch : Chg (fun b => b = vb ∨ b = g0) w w')
    (hb : Blk w' vb (volC { A with ress := l } { G with gs := g', ns := n', fs := f' }) 125) (hr : RingB w' 103 5 g' n' f' (resL { A with ress := l })) (hgn : (g' = g0 ∧ G.ns ≠ 0) ∨ w.heap.size ≤ g') (hn : n' ≤ 400000) :
    Core w (G.own vb) w' vb { A with ress := l } := by
  have hap := apart_of h.nd
  have hlt := h.lt
  have hne : ∀ b, b ∈ G.own vb → (G.ns ≠ 0 → b ≠ G.gs) → b ≠ g0 := fun b hb hn e => by
    rcases hx0 with ⟨h1, rfl⟩ | ⟨_, rfl⟩
    · exact hn h1 e
    · have := hlt b hb; omega
  have mv : vb ∈ G.own vb := own_mem.2 (Or.inl rfl)
  have ms : G.sb ∈ G.own vb := own_mem.2 (by simp)
  have mm : G.mb ∈ G.own vb := own_mem.2 (by simp)
  have mW : G.nw ≠ 0 → G.gw ∈ G.own vb := fun hn => own_mem.2 (by simp [hn])
  have mR : G.nr ≠ 0 → G.gr ∈ G.own vb := fun hn => own_mem.2 (by simp [hn])
  have mS : G.ns ≠ 0 → G.gs ∈ G.own vb := fun hn => own_mem.2 (by simp [hn])
  have hnew : ∀ b ∈ G.own vb, b = g' → G.gs = g' ∧ G.ns ≠ 0 := fun b hb e => by
    rcases hgn with ⟨h2, h3⟩ | h2
    · rcases hx0 with ⟨h4, h5⟩ | ⟨h4, _⟩
      · exact ⟨by rw [h2, h5], h4⟩
      · omega
    · have := hlt b hb; omega
  have hX : ∀ b, b ∈ G.own vb → b ≠ vb → (G.ns ≠ 0 → b ≠ G.gs) → ¬ (b = vb ∨ b = g0) := fun b hb h1 h2 h3 => h3.elim h1 (hne b hb h2)
  have hvol : VolAt w' vb { A with ress := l } { G with gs := g', ns := n', fs := f' } :=
    ⟨hb, h.std.chg hch (hX _ ms hap.sv (fun hn e => (hap.s1 hn).2.1 e.symm)), h.map.chg hch (hX _ mm hap.mv (fun hn e => (hap.s1 hn).2.2 e.symm)), ring_chg h.wq hch (fun hn => hX _ (mW hn) (hap.w1 hn).1 (fun h1 e => hap.ws hn h1 e)), ring_chg h.rq hch (fun hn => hX _ (mR hn) (hap.r1 hn).1 (fun h1 e => hap.rs hn h1 e)), hr, nodup_s h.nd hnew, ⟨h.few.1, h.few.2.1, hn⟩⟩
  refine ⟨_, hvol, hch.mono (fun k hk hx => ?_), fun b hb' => ?_⟩
  · rcases hx with rfl | rfl
    · exact mv
    · rcases hx0 with ⟨h1, rfl⟩ | ⟨_, rfl⟩
      · exact own_mem.2 (by simp [h1])
      · omega
  · have key : b = g' → b ∈ G.own vb ∨ w.heap.size ≤ b := fun e => by
      rcases hgn with ⟨h2, h3⟩ | h2
      · rcases hx0 with ⟨h4, h5⟩ | ⟨h4, _⟩
        · exact Or.inl (own_mem.2 (by rw [e, h2, h5]; simp [h4]))
        · omega
      · exact Or.inr (by omega)
    rcases own_mem.1 hb' with h1 | h1 | h1 | ⟨h1, h2⟩ | ⟨h1, h2⟩ | ⟨h1, h2⟩
    · exact Or.inl (h1 ▸ mv)
    · exact Or.inl (own_mem.2 (Or.inr (Or.inl h1)))
    · exact Or.inl (own_mem.2 (Or.inr (Or.inr (Or.inl h1))))
    · exact Or.inl (own_mem.2 (Or.inr (Or.inr (Or.inr (Or.inl ⟨h1, h2⟩)))))
    · exact Or.inl (own_mem.2 (Or.inr (Or.inr (Or.inr (Or.inr (Or.inl ⟨h1, h2⟩))))))
    · exact key h1

theorem cells_ok {c : Cmd} (hc : IsSl c.data) : c.cells.length = 5 ∧ ∀ v ∈ c.cells, v.oneCell' = true := ⟨rfl, by
  intro v hv
  simp only [Cmd.cells, List.mem_cons, List.not_mem_nil, or_false] at hv
  rcases hv with rfl | rfl | rfl | rfl | rfl
  · rfl
  · rfl
  · rfl
  · rfl
  · exact hc.one⟩
/-- a command is set at the end of those that wait -/
theorem wait_put (vb : Nat) (A : VA) (O : List Nat) (c : Cmd) (w : World) (h : Vol w vb A O) (hl : A.wait.length ≤ 100000) (hc : IsSl c.data) (hdc : DataIn w c) (hno : ∀ b ∈ dBlk c.data, b ∉ O) :
    Calls Tryz.prog 121 #[.pointer (some ⟨vb, 4, none⟩), .agg c.cells.toArray] w fun e w' => e = .returned (.tuple #[]) ∧ ∃ O', Vol w' vb { A with wait := A.wait ++ [c] } O' ∧ Chg (fun b => b ∈ O) w w' ∧ ∀ b ∈ O', b ∈ O ∨ b ∈ dBlk c.data ∨ w.heap.size ≤ b := by
  obtain ⟨G, h, rfl, hnd, hdi⟩ := h
  obtain ⟨g0, hq, hg0, hx0, hvg⟩ := ring_at_w h
  refine (putC_any vb 4 (volC A G) _ g0 G.nw G.fw (waitL A) c.cells w h.blk (by show some (plV G.gw G.nw) = _; rw [hg0]) rfl (by unfold waitL; rw [List.length_map]; rfl) hq h.few.1 hvg (cells_ok hc)).mono ?_
  rintro e w' ⟨rfl, g', n', f', hb, hr, hvg', hgn, hch⟩
  rw [show (waitL A).length = A.wait.length from List.length_map _] at hgn hb
  have hcore : Core w (G.own vb) w' vb { A with wait := A.wait ++ [c] } := step_w (g' := g') (n' := n') (f' := f') h hx0 hch ?_ ?_ ?_ ?_
  · have hda : dats (A.wait ++ [c]) = dats A.wait ++ dBlk c.data := by unfold dats; simp
    have hn1 : (dats (A.wait ++ [c])).Nodup := by
      rw [hda, List.nodup_append]
      rw [List.nodup_append] at hnd
      refine ⟨hnd.2.1, ?_, fun a ha b hb e => hno b hb (List.mem_append_right _ (e ▸ ha))⟩
      obtain ⟨da, dn, dc, e⟩ := hc
      rw [e]
      cases da <;> simp [dBlk]
    obtain ⟨O', q1, q2, q3⟩ := Vol.lift hnd hdi hcore (fun d hd => (List.mem_append.1 hd).elim Or.inl (fun hd => Or.inr (by
      rw [List.mem_singleton] at hd
      subst hd
      exact ⟨hdc, fun b hb hb' => hno b hb (List.mem_append_left _ hb')⟩))) hn1
    refine ⟨rfl, O', q1, q2.mono (fun k _ hk => List.mem_append_left _ hk), fun b hb => ?_⟩
    rcases q3 b hb with q | q | q
    · exact Or.inl (List.mem_append_left _ q)
    · have q' : b ∈ dats A.wait ++ dBlk c.data := hda ▸ q
      rcases List.mem_append.1 q' with q | q
      · exact Or.inl (List.mem_append_right _ q)
      · exact Or.inr (Or.inl q)
    · exact Or.inr (Or.inr q)
  · have e1 : volC { A with wait := A.wait ++ [c] } { G with gw := g', nw := n', fw := f' } = upd3 (volC A G) 4 (plV g' n') (.int .i64 (f' : Int)) (.int .i64 ((A.wait.length : Int) + 1)) := by
      unfold volC upd3
      simp
    rw [e1]
    exact hb
  · unfold waitL
    rw [List.map_append]
    exact hr
  · rcases hgn with ⟨h1, h2, h3⟩ | ⟨_, h2, _⟩
    · exact Or.inl ⟨h2, by omega⟩
    · exact Or.inr h2
  · have := h.few.1
    rcases hgn with ⟨h1, _, h2⟩ | ⟨_, _, h2⟩ <;> omega
theorem req_put (vb : Nat) (A : VA) (O : List Nat) (x : List Value) (w : World) (h : Vol w vb A O) (hl : A.reqs.length ≤ 100000) (hc : x.length = 19 ∧ ∀ v ∈ x, v.oneCell' = true) :
    Calls Tryz.prog 77 #[.pointer (some ⟨vb, 9, none⟩), .agg x.toArray] w fun e w' => e = .returned (.tuple #[]) ∧ Step w O w' vb { A with reqs := A.reqs ++ [x] } := by
  obtain ⟨G, h, rfl, hnd, hdi⟩ := h
  obtain ⟨g0, hq, hg0, hx0, hvg⟩ := ring_at_r h
  refine (putR_any vb 9 (volC A G) _ g0 G.nr G.fr (reqL A) x w h.blk (by show some (plV G.gr G.nr) = _; rw [hg0]) rfl rfl hq h.few.2.1 hvg hc).mono ?_
  rintro e w' ⟨rfl, g', n', f', hb, hr, hvg', hgn, hch⟩
  rw [show (reqL A).length = A.reqs.length from rfl] at hgn hb
  refine ⟨rfl, Vol.lift_sub hnd hdi (step_r (g' := g') (n' := n') (f' := f') h hx0 hch ?_ hr ?_ ?_) (List.Sublist.refl _)⟩
  · have e1 : volC { A with reqs := A.reqs ++ [x] } { G with gr := g', nr := n', fr := f' } = upd3 (volC A G) 9 (plV g' n') (.int .i64 (f' : Int)) (.int .i64 ((A.reqs.length : Int) + 1)) := by
      unfold volC upd3
      simp
    rw [e1]
    exact hb
  · rcases hgn with ⟨h1, h2, h3⟩ | ⟨_, h2, _⟩
    · exact Or.inl ⟨h2, by omega⟩
    · exact Or.inr h2
  · have := h.few.2.1
    rcases hgn with ⟨h1, _, h2⟩ | ⟨_, _, h2⟩ <;> omega
theorem res_put (vb : Nat) (A : VA) (O : List Nat) (x : List Value) (w : World) (h : Vol w vb A O) (hl : A.ress.length ≤ 100000) (hc : x.length = 5 ∧ ∀ v ∈ x, v.oneCell' = true) :
    Calls Tryz.prog 135 #[.pointer (some ⟨vb, 12, none⟩), .agg x.toArray] w fun e w' => e = .returned (.tuple #[]) ∧ Step w O w' vb { A with ress := A.ress ++ [x] } := by
  obtain ⟨G, h, rfl, hnd, hdi⟩ := h
  obtain ⟨g0, hq, hg0, hx0, hvg⟩ := ring_at_s h
  refine (putS_any vb 12 (volC A G) _ g0 G.ns G.fs (resL A) x w h.blk (by show some (plV G.gs G.ns) = _; rw [hg0]) rfl rfl hq h.few.2.2 hvg hc).mono ?_
  rintro e w' ⟨rfl, g', n', f', hb, hr, hvg', hgn, hch⟩
  rw [show (resL A).length = A.ress.length from rfl] at hgn hb
  refine ⟨rfl, Vol.lift_sub hnd hdi (step_s (g' := g') (n' := n') (f' := f') h hx0 hch ?_ hr ?_ ?_) (List.Sublist.refl _)⟩
  · have e1 : volC { A with ress := A.ress ++ [x] } { G with gs := g', ns := n', fs := f' } = upd3 (volC A G) 12 (plV g' n') (.int .i64 (f' : Int)) (.int .i64 ((A.ress.length : Int) + 1)) := by
      unfold volC upd3
      simp
    rw [e1]
    exact hb
  · rcases hgn with ⟨h1, h2, h3⟩ | ⟨_, h2, _⟩
    · exact Or.inl ⟨h2, by omega⟩
    · exact Or.inr h2
  · have := h.few.2.2
    rcases hgn with ⟨h1, _, h2⟩ | ⟨_, _, h2⟩ <;> omega
theorem wait_take (vb : Nat) (A : VA) (O : List Nat) (c : Cmd) (r : List Cmd) (w : World) (h : Vol w vb A O) (hw : A.wait = c :: r) :
    Calls Tryz.prog 110 #[.pointer (some ⟨vb, 4, none⟩)] w fun e w' => e = .returned (.tuple #[.agg c.cells.toArray, .bool true]) ∧ DataIn w' c ∧ ∃ O', Vol w' vb { A with wait := r } O' ∧ Chg (fun b => b ∈ O) w w' ∧ (∀ b ∈ O', b ∈ O ∨ w.heap.size ≤ b) ∧ ∀ b ∈ dBlk c.data, b ∈ O ∧ b ∉ O' := by
  obtain ⟨G, h, rfl, hnd, hdi⟩ := h
  have hq := h.wq
  have hn : G.nw ≠ 0 := by have := hq.len; rw [hw] at this; simp at this; omega
  rw [hw, List.map_cons] at hq
  have hvg : vb ≠ G.gw := fun e => ((apart_of h.nd).w1 hn).1 e.symm
  refine (takeC_some vb 4 (volC A G) _ G.gw G.nw G.fw c.cells (r.map Cmd.cells) w h.blk rfl rfl (by show some (Value.int .i64 (A.wait.length : Int)) = _; rw [hw, List.length_map]; rfl) hq (by have := h.few.1; omega) hvg).mono ?_
  rintro e w' ⟨rfl, hb, hr, hch⟩
  have hcore : Core w (G.own vb) w' vb { A with wait := r } := step_w (g0 := G.gw) (g' := G.gw) (n' := G.nw) (f' := (G.fw + 1) % G.nw) h (Or.inl ⟨hn, rfl⟩) hch ?_ hr (Or.inl ⟨rfl, hn⟩) h.few.1
  · have hda : dats A.wait = dBlk c.data ++ dats r := by rw [hw]; rfl
    have hnd' := hnd
    rw [hda, List.nodup_append, List.nodup_append] at hnd'
    have hcm : c ∈ A.wait := by rw [hw]; simp
    obtain ⟨O', q1, q2, q3⟩ := Vol.lift hnd hdi hcore (fun d hd => Or.inl (by rw [hw]; exact List.mem_cons_of_mem _ hd)) hnd'.2.1.2.1
    refine ⟨rfl, (hdi c hcm).at (fun g hg => q2.block g ((hdi c hcm).lt g hg) (fun hg' => hnd'.2.2 g hg' g (List.mem_append_left _ hg) rfl)), O', q1, q2.mono (fun k _ hk => List.mem_append_left _ hk), fun b hb => ?_, fun b hb => ⟨List.mem_append_right _ (by rw [hda]; exact List.mem_append_left _ hb), fun hb' => ?_⟩⟩
    · rcases q3 b hb with q | q | q
      · exact Or.inl (List.mem_append_left _ q)
      · exact Or.inl (List.mem_append_right _ (by rw [hda]; exact List.mem_append_right _ q))
      · exact Or.inr q
    · rcases q3 b hb' with q | q | q
      · exact hnd'.2.2 b q b (List.mem_append_left _ hb) rfl
      · exact hnd'.2.1.2.2 b hb b q rfl
      · have := (hdi c hcm).lt b hb; omega
  have e1 : volC { A with wait := r } { G with fw := (G.fw + 1) % G.nw } = ((volC A G).setIfInBounds (4 + 1) (.int .i64 (((G.fw + 1) % G.nw : Nat) : Int))).setIfInBounds (4 + 2) (.int .i64 ((r.map Cmd.cells).length : Int)) := by
    unfold volC
    simp
  rw [e1]
  exact hb
theorem req_take (vb : Nat) (A : VA) (O : List Nat) (x : List Value) (r : List (List Value)) (w : World) (h : Vol w vb A O) (hw : A.reqs = x :: r) :
    Calls Tryz.prog 134 #[.pointer (some ⟨vb, 9, none⟩)] w fun e w' => e = .returned (.tuple #[.agg x.toArray, .bool true]) ∧ Step w O w' vb { A with reqs := r } := by
  obtain ⟨G, h, rfl, hnd, hdi⟩ := h
  have hq := h.rq
  have hn : G.nr ≠ 0 := by have := hq.len; rw [hw] at this; simp at this; omega
  rw [hw] at hq
  have hvg : vb ≠ G.gr := fun e => ((apart_of h.nd).r1 hn).1 e.symm
  refine (takeR_some vb 9 (volC A G) _ G.gr G.nr G.fr x r w h.blk rfl rfl (by show some (Value.int .i64 (A.reqs.length : Int)) = _; rw [hw]; rfl) hq (by have := h.few.2.1; omega) hvg).mono ?_
  rintro e w' ⟨rfl, hb, hr, hch⟩
  refine ⟨rfl, Vol.lift_sub hnd hdi (step_r (g0 := G.gr) (g' := G.gr) (n' := G.nr) (f' := (G.fr + 1) % G.nr) h (Or.inl ⟨hn, rfl⟩) hch ?_ hr (Or.inl ⟨rfl, hn⟩) h.few.2.1) (List.Sublist.refl _)⟩
  have e1 : volC { A with reqs := r } { G with fr := (G.fr + 1) % G.nr } = ((volC A G).setIfInBounds (9 + 1) (.int .i64 (((G.fr + 1) % G.nr : Nat) : Int))).setIfInBounds (9 + 2) (.int .i64 (r.length : Int)) := by
    unfold volC
    simp
  rw [e1]
  exact hb
theorem res_take (vb : Nat) (A : VA) (O : List Nat) (x : List Value) (r : List (List Value)) (w : World) (h : Vol w vb A O) (hw : A.ress = x :: r) :
    Calls Tryz.prog 112 #[.pointer (some ⟨vb, 12, none⟩)] w fun e w' => e = .returned (.tuple #[.agg x.toArray, .bool true]) ∧ Step w O w' vb { A with ress := r } := by
  obtain ⟨G, h, rfl, hnd, hdi⟩ := h
  have hq := h.sq
  have hn : G.ns ≠ 0 := by have := hq.len; rw [hw] at this; simp at this; omega
  rw [hw] at hq
  have hvg : vb ≠ G.gs := fun e => ((apart_of h.nd).s1 hn).1 e.symm
  refine (takeS_some vb 12 (volC A G) _ G.gs G.ns G.fs x r w h.blk rfl rfl (by show some (Value.int .i64 (A.ress.length : Int)) = _; rw [hw]; rfl) hq (by have := h.few.2.2; omega) hvg).mono ?_
  rintro e w' ⟨rfl, hb, hr, hch⟩
  refine ⟨rfl, Vol.lift_sub hnd hdi (step_s (g0 := G.gs) (g' := G.gs) (n' := G.ns) (f' := (G.fs + 1) % G.ns) h (Or.inl ⟨hn, rfl⟩) hch ?_ hr (Or.inl ⟨rfl, hn⟩) h.few.2.2) (List.Sublist.refl _)⟩
  have e1 : volC { A with ress := r } { G with fs := (G.fs + 1) % G.ns } = ((volC A G).setIfInBounds (12 + 1) (.int .i64 (((G.fs + 1) % G.ns : Nat) : Int))).setIfInBounds (12 + 2) (.int .i64 (r.length : Int)) := by
    unfold volC
    simp
  rw [e1]
  exact hb

end Go.Proofs.YtdcinlkkjbclmaaGreat
