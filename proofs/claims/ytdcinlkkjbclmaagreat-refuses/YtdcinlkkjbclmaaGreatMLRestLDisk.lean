/- What the law keeps beside its books: the commands that are out, the disks, marks. -/
import Derived.Test.YtdcinlkkjbclmaaGreatMLDefLCmds
import Derived.Test.YtdcinlkkjbclmaaGreatMLBaseLApp
import Derived.Test.YtdcinlkkjbclmaaGreatMOrdersVMake
namespace Go.Proofs.YtdcinlkkjbclmaaGreat
open Go.RowKit

/-- a command that is out -/
structure Tl where
  c : Cmd
  tm : Int
def Tl.cells (t : Tl) : List Value := t.c.cells ++ [.int .i64 t.tm]
def verC (p : Value × Int) : List Value := [p.1, .int .i64 p.2]
/-- a disk: no sector but the first was written to since it was safe -/
structure DiskAt (w : World) (n b : Nat) (sv mv vv : Value) (ss : List Value) (V : List (Value × Int)) : Prop where
  blk : Blk w b #[.bool false, sv, mv] 85
  saf : w.ownsRow 0 36 1 sv n ss
  mor : w.ownsRow 0 155 1 mv n (vv :: List.replicate (n - 1) (.slice none 0 0))
  ver : w.ownsRow 0 157 2 vv V.length (V.flatMap verC)
  sl : ∀ p ∈ V, IsSl p.1
def dMem (b : Nat) (sv mv vv : Value) (g : Nat) : Prop := g = b ∨ sv.ownBlock = some g ∨ mv.ownBlock = some g ∨ vv.ownBlock = some g
def DiskB (w : World) (n N : Nat) (F : Nat → Prop) (b : Nat) : Prop := ∃ sv mv vv ss V, DiskAt w n b sv mv vv ss V ∧ V.length ≤ N ∧ ∀ g, F g ↔ dMem b sv mv vv g
theorem DiskAt.chg {X : Nat → Prop} {w w' : World} {n b : Nat} {sv mv vv : Value} {ss : List Value} {V : List (Value × Int)} (h : DiskAt w n b sv mv vv ss V) (hc : Chg X w w') (hx : ∀ g, dMem b sv mv vv g → ¬ X g) : DiskAt w' n b sv mv vv ss V :=
  ⟨h.blk.chg hc (hx b (Or.inl rfl)), own_chg h.saf hc (fun g hg => hx g (Or.inr (Or.inl hg))), own_chg h.mor hc (fun g hg => hx g (Or.inr (Or.inr (Or.inl hg)))), own_chg h.ver hc (fun g hg => hx g (Or.inr (Or.inr (Or.inr hg)))), h.sl⟩
def dskT (t : TypeId) : Prop := t = 85 ∨ t = 36 ∨ t = 155 ∨ t = 157
theorem DiskAt.typ {w : World} {n b : Nat} {sv mv vv : Value} {ss : List Value} {V : List (Value × Int)} (h : DiskAt w n b sv mv vv ss V) (g : Nat) (hg : dMem b sv mv vv g) : ∃ cs t, Blk w g cs t ∧ dskT t := by
  rcases hg with rfl | hg | hg | hg
  · exact ⟨_, _, h.blk, Or.inl rfl⟩
  · obtain ⟨c, hc⟩ := own_blk h.saf g hg; exact ⟨_, _, hc, Or.inr (Or.inl rfl)⟩
  · obtain ⟨c, hc⟩ := own_blk h.mor g hg; exact ⟨_, _, hc, Or.inr (Or.inr (Or.inl rfl))⟩
  · obtain ⟨c, hc⟩ := own_blk h.ver g hg; exact ⟨_, _, hc, Or.inr (Or.inr (Or.inr rfl))⟩
theorem DiskB.chg {X : Nat → Prop} {w w' : World} {n N b : Nat} {F : Nat → Prop} (h : DiskB w n N F b) (hc : Chg X w w') (hx : ∀ g, F g → ¬ X g) : DiskB w' n N F b := by
  obtain ⟨sv, mv, vv, ss, V, h1, h2, h3⟩ := h
  exact ⟨sv, mv, vv, ss, V, h1.chg hc (fun g hg => hx g ((h3 g).2 hg)), h2, h3⟩
theorem DiskB.typ {w : World} {n N b : Nat} {F : Nat → Prop} (h : DiskB w n N F b) (g : Nat) (hg : F g) : ∃ cs t, Blk w g cs t ∧ dskT t := by
  obtain ⟨sv, mv, vv, ss, V, h1, h2, h3⟩ := h
  exact h1.typ g ((h3 g).1 hg)
theorem DiskB.lt {w : World} {n N b : Nat} {F : Nat → Prop} (h : DiskB w n N F b) (g : Nat) (hg : F g) : g < w.heap.size := by
  obtain ⟨cs, t, hb, _⟩ := h.typ g hg
  exact hb.lt
theorem DiskB.mono {w : World} {n N M b : Nat} {F : Nat → Prop} (h : DiskB w n N F b) (hN : N ≤ M) : DiskB w n M F b := by
  obtain ⟨sv, mv, vv, ss, V, h1, h2, h3⟩ := h
  exact ⟨sv, mv, vv, ss, V, h1, by omega, h3⟩

/-- what the law keeps beside its books -/
structure Rest (w : World) (X : LX) (T : List Tl) (db : Nat → Nat) (F : Nat → Nat → Prop) (N vb : Nat) : Prop where
  out : w.ownsRow 0 93 6 X.out T.length (T.flatMap Tl.cells)
  dat : ∀ t ∈ T, DataIn w t.c
  ds : w.ownsRow 0 63 1 X.ds X.D ((List.range X.D).map (fun (i : Nat) => Value.pointer (some ⟨db i, 0, none⟩)))
  dk : ∀ i, i < X.D → DiskB w (17 + 2 * X.S) N (F i) (db i)
  sep : ∀ i j g, i < X.D → j < X.D → i ≠ j → F i g → ¬ F j g
  st : w.ownsRow 0 4 1 X.stale X.D (List.replicate X.D (.bool false))
  kn : w.ownsRow 0 4 1 X.knows X.D (List.replicate X.D (.bool false))
  pv : Blk w X.pb #[.pointer (some ⟨vb, 0, none⟩)] 81
/-- the blocks of it -/
def RMem (X : LX) (T : List Tl) (F : Nat → Nat → Prop) (b : Nat) : Prop := X.out.ownBlock = some b ∨ b ∈ dats (T.map Tl.c) ∨ X.ds.ownBlock = some b ∨ (∃ i, i < X.D ∧ F i b) ∨ X.stale.ownBlock = some b ∨ X.knows.ownBlock = some b ∨ b = X.pb
theorem tl_mem {T : List Tl} {b : Nat} : b ∈ dats (T.map Tl.c) ↔ ∃ t ∈ T, b ∈ dBlk t.c.data := by
  rw [dats_mem]
  constructor
  · rintro ⟨c, hc, hb⟩
    obtain ⟨t, ht, rfl⟩ := List.mem_map.1 hc
    exact ⟨t, ht, hb⟩
  · rintro ⟨t, ht, hb⟩
    exact ⟨t.c, List.mem_map.2 ⟨t, ht, rfl⟩, hb⟩
theorem Rest.chg {Y : Nat → Prop} {w w' : World} {X : LX} {T : List Tl} {db : Nat → Nat} {F : Nat → Nat → Prop} {N vb : Nat} (h : Rest w X T db F N vb) (hc : Chg Y w w') (hy : ∀ b, RMem X T F b → ¬ Y b) : Rest w' X T db F N vb :=
  ⟨own_chg h.out hc (fun g hg => hy g (Or.inl hg)), fun t ht => data_chg (h.dat t ht) hc (fun b hb => hy b (Or.inr (Or.inl (tl_mem.2 ⟨t, ht, hb⟩)))), own_chg h.ds hc (fun g hg => hy g (Or.inr (Or.inr (Or.inl hg)))), fun i hi => (h.dk i hi).chg hc (fun g hg => hy g (Or.inr (Or.inr (Or.inr (Or.inl ⟨i, hi, hg⟩))))), h.sep,
   own_chg h.st hc (fun g hg => hy g (Or.inr (Or.inr (Or.inr (Or.inr (Or.inl hg)))))), own_chg h.kn hc (fun g hg => hy g (Or.inr (Or.inr (Or.inr (Or.inr (Or.inr (Or.inl hg))))))), h.pv.chg hc (hy _ (Or.inr (Or.inr (Or.inr (Or.inr (Or.inr (Or.inr rfl)))))))⟩
def rsT (t : TypeId) : Prop := t = 93 ∨ t = 5 ∨ t = 63 ∨ dskT t ∨ t = 4 ∨ t = 81
theorem Rest.typ {w : World} {X : LX} {T : List Tl} {db : Nat → Nat} {F : Nat → Nat → Prop} {N vb : Nat} (h : Rest w X T db F N vb) (b : Nat) (hb : RMem X T F b) : ∃ cs t, Blk w b cs t ∧ rsT t := by
  rcases hb with hb | hb | hb | ⟨i, hi, hb⟩ | hb | hb | rfl
  · obtain ⟨c, hc⟩ := own_blk h.out b hb; exact ⟨_, _, hc, Or.inl rfl⟩
  · obtain ⟨t, ht, hb⟩ := tl_mem.1 hb
    obtain ⟨xs, ho, _⟩ := id (h.dat t ht)
    obtain ⟨c, hc⟩ := own_blk ho b ((data_ob (h.dat t ht) b).2 hb)
    exact ⟨_, _, hc, Or.inr (Or.inl rfl)⟩
  · obtain ⟨c, hc⟩ := own_blk h.ds b hb; exact ⟨_, _, hc, Or.inr (Or.inr (Or.inl rfl))⟩
  · obtain ⟨c, t, hc, ht⟩ := (h.dk i hi).typ b hb
    exact ⟨c, t, hc, Or.inr (Or.inr (Or.inr (Or.inl ht)))⟩
  · obtain ⟨c, hc⟩ := own_blk h.st b hb; exact ⟨_, _, hc, Or.inr (Or.inr (Or.inr (Or.inr (Or.inl rfl))))⟩
  · obtain ⟨c, hc⟩ := own_blk h.kn b hb; exact ⟨_, _, hc, Or.inr (Or.inr (Or.inr (Or.inr (Or.inl rfl))))⟩
  · exact ⟨_, _, h.pv, Or.inr (Or.inr (Or.inr (Or.inr (Or.inr rfl))))⟩
theorem Rest.lt {w : World} {X : LX} {T : List Tl} {db : Nat → Nat} {F : Nat → Nat → Prop} {N vb : Nat} (h : Rest w X T db F N vb) (b : Nat) (hb : RMem X T F b) : b < w.heap.size := by
  obtain ⟨cs, t, hc, _⟩ := h.typ b hb
  exact hc.lt
/-- a disk is written -/
def updF (F : Nat → Nat → Prop) (d : Nat) (G : Nat → Prop) : Nat → Nat → Prop := fun i => if i = d then G else F i
theorem Rest.disk {w w' : World} {X : LX} {T : List Tl} {db : Nat → Nat} {F : Nat → Nat → Prop} {N M vb d : Nat} {G : Nat → Prop} (h : Rest w X T db F N vb) (hd : d < X.D) (hc : Chg (F d) w w') (hk : DiskB w' (17 + 2 * X.S) M G (db d)) (hG : ∀ g, G g → F d g ∨ w.heap.size ≤ g) (hM : N ≤ M) : Rest w' X T db (updF F d G) M vb := by
  have hT : ∀ b cs t, Blk w b cs t → ¬ dskT t → ¬ F d b := fun b cs t hb ht hf => by
    obtain ⟨cs', t', hb', ht'⟩ := (h.dk d hd).typ b hf
    exact ht ((Blk.same hb hb').2 ▸ ht')
  have hO : ∀ g, (∃ cs t, Blk w g cs t ∧ ¬ dskT t) → ¬ F d g := fun g ⟨cs, t, hb, ht⟩ => hT g cs t hb ht
  refine ⟨own_chg h.out hc (fun g hg => ?_), fun t ht => data_chg (h.dat t ht) hc (fun b hb => ?_), own_chg h.ds hc (fun g hg => ?_), fun i hi => ?_, fun i j g hi hj hne hf hf' => ?_, own_chg h.st hc (fun g hg => ?_), own_chg h.kn hc (fun g hg => ?_), h.pv.chg hc (hT _ _ _ h.pv (by unfold dskT; decide))⟩
  · obtain ⟨c, hb⟩ := own_blk h.out g hg; exact hT g c _ hb (by unfold dskT; decide)
  · obtain ⟨xs, ho, _⟩ := id (h.dat t ht)
    obtain ⟨c, hc'⟩ := own_blk ho b ((data_ob (h.dat t ht) b).2 hb)
    exact hT b c _ hc' (by unfold dskT; decide)
  · obtain ⟨c, hb⟩ := own_blk h.ds g hg; exact hT g c _ hb (by unfold dskT; decide)
  · unfold updF
    split
    · rename_i e; subst e; exact hk
    · rename_i e
      exact ((h.dk i hi).chg hc (fun g hg hf => h.sep i d g hi hd e hg hf)).mono hM
  · unfold updF at hf hf'
    split at hf
    · rename_i e
      rw [if_neg (fun e' => hne (e.trans e'.symm))] at hf'
      rcases hG g hf with q | q
      · exact h.sep d j g hd hj (fun e' => hne (e.trans e')) q hf'
      · have := (h.dk j hj).lt g hf'; omega
    · split at hf'
      · rename_i e e'
        rcases hG g hf' with q | q
        · exact h.sep i d g hi hd e hf q
        · have := (h.dk i hi).lt g hf; omega
      · exact h.sep i j g hi hj hne hf hf'
  · obtain ⟨c, hb⟩ := own_blk h.st g hg; exact hT g c _ hb (by unfold dskT; decide)
  · obtain ⟨c, hb⟩ := own_blk h.kn g hg; exact hT g c _ hb (by unfold dskT; decide)

end Go.Proofs.YtdcinlkkjbclmaaGreat

/- The law's disks: a sector is written, all is made safe, a new disk. -/
namespace Go.Proofs.YtdcinlkkjbclmaaGreat
open Go.RowKit

theorem data_news {w : World} {c : Cmd} (h : DataIn w c) : ∃ (av : Option Addr) (cv : Nat) (ys : List Nat), c.data = .slice av ys.length cv ∧ (ys.length = 0 ∨ ys.length = 8) ∧ (∀ y ∈ ys, y < 256) ∧ (∀ j u, (ys.map (fun (x : Nat) => Value.int .u8 (x : Int)))[j]? = some u → ∃ ad, av = some ad ∧ w.cell? (ad.add j) = some u) := by
  obtain ⟨ys, ho, hl, hb⟩ := h
  rcases own_get ho with ⟨e, e2, e3⟩ | ⟨g, cap, cs, e, hbk, h1, h2, h3, h4, h5⟩
  · refine ⟨none, 0, ys, by rw [e, e2], hl, hb, fun j u hj => ?_⟩
    rw [e3] at hj; simp at hj
  · refine ⟨_, cap, ys, e, hl, hb, fun j u hj => ⟨⟨g, 0, none⟩, rfl, ?_⟩⟩
    have hjl : j < ys.length := by have := (List.getElem?_eq_some_iff.1 hj).1; simpa using this
    rw [Addr.add_mid, Nat.zero_add, hbk.cell, h5 j (by omega)]
    exact hj
theorem bytes_one (ys : List Nat) : ∀ u ∈ ys.map (fun (x : Nat) => Value.int .u8 (x : Int)), u.oneCell' = true := fun u hu => by
  obtain ⟨y, _, rfl⟩ := List.mem_map.1 hu
  rfl
theorem infoV : (Tryz.prog.info? 157).map (fun i => (i.zero, i.size, i.bytes)) = some (some (.agg #[.slice none 0 0, .int .i64 0]), 2, 32) := by kernel_rfl
theorem infoVs : (Tryz.prog.info? 155).map (fun i => (i.zero, i.size, i.bytes)) = some (some (.slice none 0 0), 1, 24) := by kernel_rfl
theorem row_some {w : World} {t : TypeId} {k : Nat} {v : Value} {n : Nat} {xs : List Value} (h : w.ownsRow 0 t k v n xs) (hn : 0 < n) : ∃ (g cap : Nat) (cs : Array Value), v = .slice (some ⟨g, 0, none⟩) n cap ∧ Blk w g cs t ∧ n ≤ cap ∧ cs.size = cap * k ∧ xs.length = n * k ∧ ∀ j, j < n * k → cs[j]? = xs[j]? := by
  rcases own_get h with ⟨_, h0, _⟩ | ⟨g, cap, cs, e, hb, h1, _, h3, h4, h5⟩
  · omega
  · exact ⟨g, cap, cs, e, hb, h1, h3, h4, h5⟩

set_option maxRecDepth 100000 in
set_option maxHeartbeats 4000000 in
theorem put_any (db n N : Nat) (F : Nat → Prop) (c : Cmd) (tm : Int) (w : World) (h : DiskB w n N F db) (hn : 0 < n) (hN : N ≤ 1000) (hd : DataIn w c) :
    Calls Tryz.prog 52 #[.pointer (some ⟨db, 0, none⟩), .int .i64 0, c.data, .int .i64 tm] w fun e w' => e = .returned (.tuple #[]) ∧ ∃ G, DiskB w' n (N + 1) G db ∧ Chg F w w' ∧ ∀ b, G b → F b ∨ w.heap.size ≤ b := by
  obtain ⟨av, cv, ys, hcd, hyl, hyb, hnews⟩ := data_news hd
  rw [hcd]
  obtain ⟨sv, mv, vv, ss, V, hat, hV, hF⟩ := h
  obtain ⟨mb, cm, ms, rfl, hmb, hmc, hmz, hml, hmx⟩ := row_some hat.mor hn
  have HAT := hide hat
  have HF := hide hF
  have hmv : ms[0]? = some vv := by rw [hmx 0 (by omega)]; rfl
  obtain ⟨dl, hdl⟩ : ∃ dl, dl = ys.length := ⟨_, rfl⟩
  have hl1 : (ys.map (fun (x : Nat) => Value.int .u8 (x : Int))).length = dl * 1 := by simp [hdl]
  have hd8 : dl ≤ 8 := by omega
  have HNW := hide hnews
  have HON := hide (bytes_one ys)
  rw [← hdl]
  generalize hxs : ys.map (fun (x : Nat) => Value.int .u8 (x : Int)) = xs at *
  clear hat hF hnews hcd hyb hxs hyl hdl
  go_enter Tryz.func52, Tryz.ntmps52
  go_wp2_with (at_builtin; refine wpList_append_all rfl (.tmp 9) (.tmp 10) 36 rfl 5 (.int .u8 0) 1 1 Tryz.underlying36 infoU rfl (by decide) (.slice none 0 0) 0 [] rfl (World.ownsRow_nil _ _ _ _) av dl cv xs rfl hl1 (unhide HNW) (unhide HON) (by omega) (by decide) ?_)
  intro a1 c1 w1 hap
  try simp only [Nat.zero_add, List.nil_append] at hap
  try simp only [Nat.zero_add]
  have C1 : Chg (fun _ => False) w w1 := hap.chg.mono (fun k _ hk => by cases hk)
  have HC1 := hide C1
  have A1 := hide ((unhide HAT).chg C1 (fun _ _ => id))
  clear hap C1 HNW HON hl1
  go_wp2_with fail
  have hmb1 := hmb.chg (unhide HC1) id
  have hS : (fun w' : World => w'.cell? ⟨db, 2, none⟩ = some (.slice (some ⟨mb, 0, none⟩) n cm) ∧ w'.cell? ⟨mb, 0, none⟩ = some vv) w1.drew := ⟨(unhide A1).blk.cell 2, (hmb1.cell 0).trans hmv⟩
  refine wp_region_noPanic ?_
  refine orders_begin 18 (fun w' => w'.cell? ⟨db, 2, none⟩ = some (.slice (some ⟨mb, 0, none⟩) n cm) ∧ w'.cell? ⟨mb, 0, none⟩ = some vv) (by kernel_rfl) ?_
  refine orders_take 0 (some 12) (v := .pointer (some ⟨db, 0, none⟩)) rfl (by kernel_rfl) (by kernel_rfl) (by kernel_rfl) (by kernel_rfl) (fun _ _ _ h => h) (Or.inl ⟨by rfl, fun _ _ => rfl⟩) hS rfl ?_
  simp only [Act.put, List.setIfInBounds_toArray, List.set_cons_zero, List.set_cons_succ]
  refine orders_take 1 (some 13) (v := .pointer (some ⟨db, 0, none⟩)) rfl (by kernel_rfl) (by kernel_rfl) (by kernel_rfl) (by kernel_rfl) (fun _ _ _ h => h) (Or.inl ⟨by rfl, fun _ _ => by go_simp⟩) hS rfl ?_
  simp only [Act.put, List.setIfInBounds_toArray, List.set_cons_zero, List.set_cons_succ]
  refine orders_take 2 (some 14) (v := .pointer (some ⟨db, 2, none⟩)) rfl (by kernel_rfl) (by kernel_rfl) (by kernel_rfl) (by kernel_rfl) (fun _ _ _ h => h) (Or.inl ⟨by rfl, fun _ _ => by go_simp⟩) hS rfl ?_
  simp only [Act.put, List.setIfInBounds_toArray, List.set_cons_zero, List.set_cons_succ]
  refine orders_take 3 (some 15) (v := .slice (some ⟨mb, 0, none⟩) n cm) rfl (by kernel_rfl) (by kernel_rfl) (by kernel_rfl) (by kernel_rfl) (fun _ _ _ h => h) (Or.inl ⟨by rfl, fun w' hw => by have hcc := hw.1; clear hw; go_simp⟩) hS rfl ?_
  simp only [Act.put, List.setIfInBounds_toArray, List.set_cons_zero, List.set_cons_succ]
  refine orders_take 4 (some 16) (v := .int .i64 0) rfl (by kernel_rfl) (by kernel_rfl) (by kernel_rfl) (by kernel_rfl) (fun _ _ _ h => h) (Or.inl ⟨by rfl, fun _ _ => rfl⟩) hS rfl ?_
  simp only [Act.put, List.setIfInBounds_toArray, List.set_cons_zero, List.set_cons_succ]
  refine orders_take 5 (some 17) (v := .pointer (some ⟨db, 0, none⟩)) rfl (by kernel_rfl) (by kernel_rfl) (by kernel_rfl) (by kernel_rfl) (fun _ _ _ h => h) (Or.inl ⟨by rfl, fun _ _ => rfl⟩) hS rfl ?_
  simp only [Act.put, List.setIfInBounds_toArray, List.set_cons_zero, List.set_cons_succ]
  refine orders_take 6 (some 18) (v := .pointer (some ⟨db, 0, none⟩)) rfl (by kernel_rfl) (by kernel_rfl) (by kernel_rfl) (by kernel_rfl) (fun _ _ _ h => h) (Or.inl ⟨by rfl, fun _ _ => by go_simp⟩) hS rfl ?_
  simp only [Act.put, List.setIfInBounds_toArray, List.set_cons_zero, List.set_cons_succ]
  refine orders_take 7 (some 19) (v := .pointer (some ⟨db, 2, none⟩)) rfl (by kernel_rfl) (by kernel_rfl) (by kernel_rfl) (by kernel_rfl) (fun _ _ _ h => h) (Or.inl ⟨by rfl, fun _ _ => by go_simp⟩) hS rfl ?_
  simp only [Act.put, List.setIfInBounds_toArray, List.set_cons_zero, List.set_cons_succ]
  refine orders_take 8 (some 20) (v := .slice (some ⟨mb, 0, none⟩) n cm) rfl (by kernel_rfl) (by kernel_rfl) (by kernel_rfl) (by kernel_rfl) (fun _ _ _ h => h) (Or.inl ⟨by rfl, fun w' hw => by have hcc := hw.1; clear hw; go_simp⟩) hS rfl ?_
  simp only [Act.put, List.setIfInBounds_toArray, List.set_cons_zero, List.set_cons_succ]
  refine orders_take 9 (some 21) (v := .int .i64 0) rfl (by kernel_rfl) (by kernel_rfl) (by kernel_rfl) (by kernel_rfl) (fun _ _ _ h => h) (Or.inl ⟨by rfl, fun _ _ => rfl⟩) hS rfl ?_
  simp only [Act.put, List.setIfInBounds_toArray, List.set_cons_zero, List.set_cons_succ]
  refine orders_take 10 (some 22) (v := .pointer (some ⟨mb, 0, none⟩)) rfl (by kernel_rfl) (by kernel_rfl) (by kernel_rfl) (by kernel_rfl) (fun _ _ _ h => h) (Or.inl ⟨by rfl, fun _ _ => by go_simp⟩) hS rfl ?_
  simp only [Act.put, List.setIfInBounds_toArray, List.set_cons_zero, List.set_cons_succ]
  refine orders_take 11 (some 23) (v := vv) rfl (by kernel_rfl) (by kernel_rfl) (by kernel_rfl) (by kernel_rfl) (fun _ _ _ h => h) (Or.inl ⟨by rfl, fun w' hw => by have hcc := hw.2; clear hw; go_simp⟩) hS rfl ?_
  simp only [Act.put, List.setIfInBounds_toArray, List.set_cons_zero, List.set_cons_succ]
  refine orders_take 12 (some 24) (v := .slice a1 dl c1) rfl (by kernel_rfl) (by kernel_rfl) (by kernel_rfl) (by kernel_rfl) (fun _ _ _ h => h) (Or.inl ⟨by rfl, fun _ _ => rfl⟩) hS rfl ?_
  simp only [Act.put, List.setIfInBounds_toArray, List.set_cons_zero, List.set_cons_succ]
  refine orders_take 13 (some 25) (v := .int .i64 tm) rfl (by kernel_rfl) (by kernel_rfl) (by kernel_rfl) (by kernel_rfl) (fun _ _ _ h => h) (Or.inl ⟨by rfl, fun _ _ => rfl⟩) hS rfl ?_
  simp only [Act.put, List.setIfInBounds_toArray, List.set_cons_zero, List.set_cons_succ]
  refine orders_take 14 (some 26) (v := .agg #[.slice a1 dl c1, .int .i64 tm]) rfl (by kernel_rfl) (by kernel_rfl) (by kernel_rfl) (by kernel_rfl) (fun _ _ _ h => h) (Or.inl ⟨by rfl, fun _ _ => by go_simp⟩) hS rfl ?_
  simp only [Act.put, List.setIfInBounds_toArray, List.set_cons_zero, List.set_cons_succ]
  generalize hwd : w1.drew = wd at *
  have CD : Chg (fun _ => False) w wd := by rw [← hwd]; exact (unhide HC1).drew
  have AD := (unhide HAT).chg CD (fun _ _ => id)
  have hmbd := hmb.chg CD id
  have hdl := AD.blk.lt
  have hml := hmbd.lt
  refine orders_one 15 (by kernel_rfl) rfl (by rfl) (fun K hK => ?_)
  go_simp
  refine hK.out _ _ (fun _ => ⟨by rw [World.cell?_alloc_past _ _ _ hdl]; exact hS.1, by rw [World.cell?_alloc_past _ _ _ hml]; exact hS.2⟩) ?_
  clear hK K
  have hal := (Below.refl wd.heap.size wd).alloc (Nat.le_refl _) (.cells #[.slice a1 dl c1, .int .i64 tm] 157)
  refine orders_one 16 (by kernel_rfl) rfl (by rfl) (fun K hK => ?_)
  refine wp_append_all (.tmp 23) (.tmp 27) 155 rfl 157 (.agg #[.slice none 0 0, .int .i64 0]) 2 32 Tryz.underlying155 infoV rfl (by decide) vv V.length (V.flatMap verC) rfl (own_chg AD.ver (Chg.of_new (X := fun _ => False) hal) (fun _ _ => id)) (some ⟨wd.heap.size, 0, none⟩) 1 1 [.slice a1 dl c1, .int .i64 tm] rfl rfl (fun j u hj => ⟨_, rfl, news_blk (Blk.new wd #[.slice a1 dl c1, .int .i64 tm] 157) j u hj⟩) (by intro u hu; simp only [List.mem_cons, List.not_mem_nil, or_false] at hu; rcases hu with rfl | rfl <;> rfl) (by omega) (by decide) ?_
  intro a2 c2 w2 hap
  have C2 : Chg (fun x => vv.ownBlock = some x) wd w2 := ((Chg.refl _ _).alloc _).trans hap.chg (fun k h => Or.inl h)
  have hvT := own_blk AD.ver
  have nV : ∀ g cs t, Blk wd g cs t → t ≠ 157 → ¬ vv.ownBlock = some g := fun g cs t hb ht hv => by
    obtain ⟨cs', hb'⟩ := hvT g hv
    exact ht (Blk.same hb hb').2
  have B2 := AD.blk.chg C2 (nV _ _ _ AD.blk (by decide))
  have M2 := hmbd.chg C2 (nV _ _ _ hmbd (by decide))
  have hS2 : (fun w' : World => w'.cell? ⟨db, 2, none⟩ = some (.slice (some ⟨mb, 0, none⟩) n cm) ∧ w'.cell? ⟨mb, 0, none⟩ = some vv) w2 := ⟨B2.cell 2, (M2.cell 0).trans hmv⟩
  refine hK.out _ _ (fun _ => hS2) ?_
  clear hK K
  have HAP := hide hap
  have HC2 := hide C2
  have HAD := hide AD
  have HCD := hide CD
  have HNV := hide nV
  have HM2 := hide M2
  have HMBD := hide hmbd
  have f0 := M2.free 0
  have hcc := hS2.2
  clear hap C2 AD CD nV B2 M2 hmbd hvT hal hS
  refine orders_one 17 (by kernel_rfl) rfl (by rfl) (fun K hK => ?_)
  go_simp
  refine hK.out _ _ (fun _ => hS2) ?_
  clear hK K
  refine orders_one 18 (by kernel_rfl) rfl (by rfl) (fun K hK => ?_)
  go_simp
  refine hK.out _ _ (fun h => absurd rfl h) ?_
  clear hK K hS2 hcc f0
  refine orders_end (by kernel_rfl) ?_
  refine NoPanic.normal ?_
  go_wp2
  have AD := unhide HAD
  have C3 : Chg (fun x => x = mb ∨ vv.ownBlock = some x) wd (w2.setCell ⟨mb, 0, none⟩ (.slice a2 (V.length + 1) c2)) := ((unhide HC2).mono (fun k _ h => Or.inr h)).setCell _ _ (Or.inl (Or.inl rfl))
  have CS : Chg (fun x => x = mb) w2 (w2.setCell ⟨mb, 0, none⟩ (.slice a2 (V.length + 1) c2)) := Chg.setCell (X := fun x => x = mb) (Chg.refl _ w2) ⟨mb, 0, none⟩ _ (Or.inl rfl)
  have nM : ∀ g cs t, Blk wd g cs t → t ≠ 157 → t ≠ 155 → ¬ (g = mb ∨ vv.ownBlock = some g) := fun g cs t hb h1 h2 hx => by
    rcases hx with rfl | hx
    · exact h2 (Blk.same hb (unhide HMBD)).2
    · exact unhide HNV g cs t hb h1 hx
  have hsz := (unhide HCD).size
  refine bodyPost_end (results_none rfl _ _ _) rfl ⟨rfl, dMem db sv (.slice (some ⟨mb, 0, none⟩) n cm) (.slice a2 (V.length + 1) c2), ⟨sv, .slice (some ⟨mb, 0, none⟩) n cm, .slice a2 (V.length + 1) c2, ss, V ++ [(.slice a1 dl c1, tm)], ⟨AD.blk.chg C3 (nM _ _ _ AD.blk (by decide) (by decide)), own_chg AD.saf C3 (fun g hg => ?_), ?_, ?_, fun p hp => ?_⟩, by simp; omega, fun g => Iff.rfl⟩, ?_, fun b hb => ?_⟩
  · obtain ⟨cs, hb⟩ := own_blk AD.saf g hg
    exact nM g cs _ hb (by decide) (by decide)
  · have := own_set (own_chg AD.mor (unhide HC2) (fun g hg hv => by
      obtain ⟨cs, hb⟩ := own_blk AD.mor g hg
      exact unhide HNV g cs _ hb (by decide) hv)) hn (.slice a2 (V.length + 1) c2)
    exact this
  · have h1 := own_chg (unhide HAP).own CS (fun g hg e => by
      subst e
      obtain ⟨cs, hb⟩ := own_blk (unhide HAP).own g hg
      exact (by decide : 157 ≠ 155) (Blk.same hb (unhide HM2)).2)
    rw [List.length_append, List.flatMap_append]
    exact h1
  · rcases List.mem_append.1 hp with q | q
    · exact AD.sl p q
    · rw [List.mem_singleton.1 q]
      exact ⟨_, _, _, rfl⟩
  · exact ((unhide HCD).mono (fun _ _ h => h.elim)).trans C3 (fun k hk => Or.inl ((unhide HF k).2 (hk.elim (fun e => Or.inr (Or.inr (Or.inl (by rw [e]; rfl)))) (fun e => Or.inr (Or.inr (Or.inr e))))))
  · rcases hb with hb | hb | hb | hb
    · exact Or.inl ((unhide HF b).2 (Or.inl hb))
    · exact Or.inl ((unhide HF b).2 (Or.inr (Or.inl hb)))
    · exact Or.inl ((unhide HF b).2 (Or.inr (Or.inr (Or.inl hb))))
    · rcases (unhide HAP).new b hb with q | q
      · exact Or.inl ((unhide HF b).2 (Or.inr (Or.inr (Or.inr q))))
      · rw [World.size_alloc] at q
        exact Or.inr (by omega)

theorem ver_at (V : List (Value × Int)) (i : Nat) (p : Value × Int) (h : V[i]? = some p) : (V.flatMap verC)[i * 2]? = some p.1 ∧ (V.flatMap verC)[i * 2 + 1]? = some (.int .i64 p.2) := by
  induction V generalizing i with
  | nil => simp at h
  | cons x r ih =>
    cases i with
    | zero =>
      simp only [List.getElem?_cons_zero, Option.some.injEq] at h
      subst h
      exact ⟨rfl, rfl⟩
    | succ i =>
      simp only [List.getElem?_cons_succ] at h
      obtain ⟨h1, h2⟩ := ih i h
      rw [List.flatMap_cons]
      refine ⟨?_, ?_⟩
      · rw [List.getElem?_append_right (by show 2 ≤ (i + 1) * 2; omega), show (i + 1) * 2 - (verC x).length = i * 2 by show (i + 1) * 2 - 2 = _; omega]
        exact h1
      · rw [List.getElem?_append_right (by show 2 ≤ (i + 1) * 2 + 1; omega), show (i + 1) * 2 + 1 - (verC x).length = i * 2 + 1 by show (i + 1) * 2 + 1 - 2 = _; omega]
        exact h2
/-- what of a disk is made safe: k sectors done -/
structure SecTo (w wr : World) (n N db : Nat) (sv mv : Value) (F : Nat → Prop) (vv : Value) (ss : List Value) (V : List (Value × Int)) : Prop where
  dsk : DiskAt wr n db sv mv vv ss V
  num : V.length ≤ N
  chg : Chg F w wr
  new : ∀ g, vv.ownBlock = some g → F g ∨ w.heap.size ≤ g
/-- a row of versions in the making -/
structure RestTo (w wr : World) (rv : Value) (R : List (Value × Int)) (i : Nat) : Prop where
  row : wr.ownsRow 0 157 2 rv R.length (R.flatMap verC)
  sl : ∀ p ∈ R, IsSl p.1
  new : ∀ g, rv.ownBlock = some g → w.heap.size ≤ g
  few : R.length ≤ i
  non : R = [] → rv = .slice none 0 0

set_option maxRecDepth 100000 in
set_option maxHeartbeats 8000000 in
theorem secure_any (db n N : Nat) (F : Nat → Prop) (bf : Int) (w : World) (h : DiskB w n N F db) (hn : 0 < n) (hn2 : n ≤ 100) (hN : N ≤ 1000) :
    Calls Tryz.prog 53 #[.pointer (some ⟨db, 0, none⟩), .int .i64 bf] w fun e w' => e = .returned (.tuple #[]) ∧ ∃ G, DiskB w' n N G db ∧ Chg F w w' ∧ ∀ b, G b → F b ∨ w.heap.size ≤ b := by
  obtain ⟨sv, mv, vv, ss, V, hat, hV, hF⟩ := h
  obtain ⟨mb, cm, ms, rfl, hmb, hmc, hmz, hml, hmx⟩ := row_some hat.mor hn
  obtain ⟨sb, cs, sa, rfl, hsb, hsc, hsz, hsl, hsx⟩ := row_some hat.saf hn
  have HF := hide hF
  have hv0 : ∀ g, vv.ownBlock = some g → g < w.heap.size := fun g hg => by
    obtain ⟨c, hc⟩ := own_blk hat.ver g hg
    exact hc.lt
  have HV0 := hide hv0
  have H0 : Hid (SecTo w w n N db (.slice (some ⟨sb, 0, none⟩) n cs) (.slice (some ⟨mb, 0, none⟩) n cm) F vv ss V) := ⟨hat, hV, Chg.refl _ _, fun g hg => Or.inl ((hF g).2 (Or.inr (Or.inr (Or.inr hg))))⟩
  have hni : (n : Int) ≤ 100 := by omega
  obtain ⟨v0, hv00⟩ : ∃ v0, v0 = vv := ⟨_, rfl⟩
  have HV1 : Hid (∀ g, v0.ownBlock = some g → g < w.heap.size) := by rw [hv00]; exact hv0
  have HE : Hid (v0 = vv) := hv00
  clear hat hF hV hmb hmz hml hmx hsb hsz hsl hsx hv0 hv00
  go_enter Tryz.func53, Tryz.ntmps53
  go_wp2
  go_loopw [4] (fun kv wr => ∃ (k : Nat) (vv : Value) (ss : List Value) (V : List (Value × Int)), k ≤ n ∧ kv = .int .i64 (k : Int) ∧ (k = 0 → vv = v0) ∧ SecTo w wr n N db (.slice (some ⟨sb, 0, none⟩) n cs) (.slice (some ⟨mb, 0, none⟩) n cm) F vv ss V) (fun k _ => n - (intOf k).toNat)
  case atStart => exact ⟨0, vv, ss, V, Nat.zero_le _, rfl, fun _ => (unhide HE).symm, unhide H0⟩
  case round =>
    clear H0 HE
    obtain ⟨k, vv, ss, V, hk, rfl, hk0, hto⟩ := hrel
    have d2 : wr.cell? ⟨db, 2, none⟩ = some (.slice (some ⟨mb, 0, none⟩) n cm) := hto.dsk.blk.cell 2
    rcases Nat.lt_or_ge k n with hlt | hge
    · have ik0 : (0 : Int) ≤ (k : Int) := by omega
      have ik1 : (k : Int) < (n : Int) := by omega
      have mk : wr.cell? ⟨mb, k, none⟩ = some (if k = 0 then vv else .slice none 0 0) := by
        have := hto.dsk.mor.cellAt k (by omega)
        rw [this]
        cases k with
        | zero => rfl
        | succ j => rw [List.getElem?_cons_succ, List.getElem?_replicate, if_pos (by omega)]; rfl
      obtain ⟨Vk, hVk⟩ : ∃ Vk, Vk = if k = 0 then V else [] := ⟨_, rfl⟩
      obtain ⟨ua, uc, hu⟩ : ∃ ua uc, (if k = 0 then vv else Value.slice none 0 0) = .slice ua Vk.length uc := by
        rw [hVk]
        split
        · rcases own_get hto.dsk.ver with ⟨e, e2, _⟩ | ⟨g, cap, c, e, _⟩
          · exact ⟨none, 0, by rw [e, e2]⟩
          · exact ⟨_, _, e⟩
        · exact ⟨none, 0, rfl⟩
      rw [hu] at mk
      have hkv : Vk.length ≤ 1000 := by
        have := hto.num
        rw [hVk]; split
        · omega
        · simp
      have HTO := hide hto
      have HVK := hide hVk
      have HU := hide hu
      have HK0 := hide hk0
      clear hto hVk hu hk0
      go_wp2
      go_loopw [5, 6] (fun rv iv wi => ∃ (i : Nat) (R : List (Value × Int)) (sq : List Value) (ra : Option Addr) (rc : Nat), i ≤ Vk.length ∧ rv = .slice ra R.length rc ∧ iv = .int .i64 (i : Int) ∧ RestTo w wi (.slice ra R.length rc) R i ∧ DiskAt wi n db (.slice (some ⟨sb, 0, none⟩) n cs) (.slice (some ⟨mb, 0, none⟩) n cm) vv sq V ∧ Chg F w wi) (fun _ i _ => Vk.length - (intOf i).toNat)
      case atStart => exact ⟨0, [], ss, none, 0, Nat.zero_le _, rfl, rfl, ⟨World.ownsRow_nil _ _ _ _, (fun p hp => by cases hp), (fun g hg => by cases hg), Nat.zero_le _, fun _ => rfl⟩, (unhide HTO).dsk, (unhide HTO).chg⟩
      case round =>
        clear d2 mk
        obtain ⟨i, R, sq, ra, rc, hi, rfl, rfl, hre, hdk, hch⟩ := hrel
        have d2 : wr.cell? ⟨db, 2, none⟩ = some (.slice (some ⟨mb, 0, none⟩) n cm) := hdk.blk.cell 2
        have d1 : wr.cell? ⟨db, 1, none⟩ = some (.slice (some ⟨sb, 0, none⟩) n cs) := hdk.blk.cell 1
        have mk : wr.cell? ⟨mb, k, none⟩ = some (.slice ua Vk.length uc) := by
          have := hdk.mor.cellAt k (by omega)
          rw [this, ← unhide HU]
          cases k with
          | zero => rfl
          | succ j => rw [List.getElem?_cons_succ, List.getElem?_replicate, if_pos (by omega)]; rfl
        have ii0 : (0 : Int) ≤ (i : Int) := by omega
        have ivk : (Vk.length : Int) ≤ 1000 := by omega
        have nT : ∀ g c t, Blk wr g c t → ∀ c' t', Blk wr sb c' t' → t ≠ t' → g ≠ sb := fun g c t hb c' t' hb' ht => ne_of_type hb hb' ht
        obtain ⟨sbc, hsb⟩ := own_blk hdk.saf sb rfl
        obtain ⟨mbc, hmb⟩ := own_blk hdk.mor mb rfl
        rcases Nat.lt_or_ge i Vk.length with hil | hig
        · have hkz : k = 0 := by
            rcases Nat.eq_zero_or_pos k with q | q
            · exact q
            · have := unhide HVK
              rw [if_neg (by omega)] at this
              rw [this] at hil; simp at hil
          have hVe : Vk = V := by have := unhide HVK; rw [if_pos hkz] at this; exact this
          have hvu : vv = .slice ua Vk.length uc := by have := unhide HU; rw [if_pos hkz] at this; exact this
          have hvz := unhide HK0 hkz
          have HKZ := hide hkz
          clear hkz
          obtain ⟨g, gc, gs, hge, hgb, _, _, hgl, hgx⟩ := row_some hdk.ver (by rw [← hVe]; omega)
          obtain ⟨p, hp⟩ : ∃ p, V[i]? = some p := ⟨_, List.getElem?_eq_getElem (by rw [← hVe]; exact hil)⟩
          obtain ⟨v1, v2⟩ := ver_at V i p hp
          obtain ⟨pa, pl, pc, hpe⟩ := hdk.sl p (List.mem_of_getElem? hp)
          have hVl : V.length = Vk.length := by rw [hVe]
          have hg2 : ua = some ⟨g, 0, none⟩ := by
            have := hvu.symm.trans hge
            simp only [Value.slice.injEq] at this
            exact this.1
          subst hg2
          have z1 : wr.cell? ⟨g, i * 2, none⟩ = some (.slice pa pl pc) := by rw [hgb.cell, hgx _ (by omega), v1, hpe]
          have z2 : wr.cell? ⟨g, i * 2 + 1, none⟩ = some (.int .i64 p.2) := by rw [hgb.cell, hgx _ (by omega), v2]
          have ii1 : (i : Int) < (Vk.length : Int) := by omega
          have s0 : ∃ u, wr.cell? ⟨sb, k, none⟩ = some u := by
            have := hdk.saf.cellAt k (by omega)
            rw [this]
            exact ⟨_, List.getElem?_eq_getElem (by have := hdk.saf.1; omega)⟩
          obtain ⟨u0, s0⟩ := s0
          have sf := hsb.free k
          have hgz : g < w.heap.size := unhide HV1 g (by rw [← hvz, hge]; rfl)
          have HVE := hide hVe
          clear hVe
          have HDK := hide hdk
          have HRE := hide hre
          have HCH := hide hch
          have HSB := hide hsb
          have HMB := hide hmb
          have HGB := hide hgb
          have HPE := hide hpe
          have HHP := hide hp
          obtain ⟨q, hq⟩ : ∃ q, q = p.2 := ⟨_, rfl⟩
          rw [← hq] at z2
          have HQ := hide hq
          clear hdk hre hch hsb hmb hgb hpe hp hgx hgl v1 v2 hvu hVl hge hq nT hvz
          by_cases hbf : q ≤ bf
          · go_wp2_with fail
            refine region_tail 16 (by kernel_rfl) (by kernel_rfl) ?_
            rintro w4 hw4
            obtain rfl := hw4
            simp only [List.take_succ_cons, List.take_zero, List.drop_succ_cons, List.drop_zero]
            have y1 : wr.drew.cell? ⟨db, 1, none⟩ = some (.slice (some ⟨sb, 0, none⟩) n cs) := d1
            have y2 : wr.drew.cell? ⟨db, 2, none⟩ = some (.slice (some ⟨mb, 0, none⟩) n cm) := d2
            have y3 : wr.drew.cell? ⟨mb, k, none⟩ = some (.slice (some ⟨g, 0, none⟩) Vk.length uc) := mk
            have y4 : wr.drew.cell? ⟨g, i * 2, none⟩ = some (.slice pa pl pc) := z1
            have y5 : wr.drew.cell? ⟨sb, k, none⟩ = some u0 := s0
            have y6 : wr.drew.frozen? ⟨sb, k, none⟩ = false := sf
            repeat (refine wpStill_step (fun K hK => ?_); go_simp; (try go_ints); refine hK _ ?_; clear hK K)
            refine wpStill_nil ?_
            clear d1 d2 mk z1 z2 s0 sf
            go_wp2
            go_roundw
            case rel =>
              have hdk := unhide HDK
              have hre := unhide HRE
              have CD : Chg (fun _ => False) wr wr.drew := (Chg.refl _ _).drew
              have CS : Chg (fun x => x = sb) wr (wr.drew.setCell ⟨sb, k, none⟩ (.slice pa pl pc)) := Chg.setCell (X := fun x => x = sb) (Chg.refl _ wr).drew ⟨sb, k, none⟩ _ (Or.inl rfl)
              have nS : ∀ g c t, Blk wr g c t → t ≠ 36 → ¬ g = sb := fun g c t hb ht e => by
                subst e
                exact ht (Blk.same hb (unhide HSB)).2
              have nR : ∀ (t : TypeId) (k : Nat) (v : Value) (m : Nat) (xs : List Value), wr.ownsRow 0 t k v m xs → t ≠ 36 → ∀ g, v.ownBlock = some g → ¬ g = sb := fun t k v m xs ho ht g hg => by
                obtain ⟨c, hc⟩ := own_blk ho g hg
                exact nS g c t hc ht
              exact ⟨i + 1, R, sq.set k (.slice pa pl pc), ra, rc, by omega, rfl, by go_num, ⟨own_chg hre.row CS (nR _ _ _ _ _ hre.row (by decide)), hre.sl, hre.new, by have := hre.few; omega, hre.non⟩, ⟨hdk.blk.chg CS (nS _ _ _ hdk.blk (by decide)), own_set (own_chg hdk.saf CD (fun _ _ => id)) hlt _, own_chg hdk.mor CS (nR _ _ _ _ _ hdk.mor (by decide)), own_chg hdk.ver CS (nR _ _ _ _ _ hdk.ver (by decide)), hdk.sl⟩, (unhide HCH).trans CS (fun x e => Or.inl ((unhide HF x).2 (Or.inr (Or.inl (by rw [e]; rfl)))))⟩
            case measure => simp [intOf]; omega
          · have hal := (Below.refl wr.heap.size wr).alloc (Nat.le_refl _) (.cells #[.slice pa pl pc, .int .i64 q] 157)
            have OW := hide (own_chg (unhide HRE).row (Chg.of_new (X := fun _ => False) hal) (fun _ _ => id))
            have NW : Hid (∀ (j : Nat) (u : Value), [Value.slice pa pl pc, .int .i64 q][j]? = some u → ∃ ad, some (⟨wr.heap.size, 0, none⟩ : Addr) = some ad ∧ (wr.alloc (.cells #[.slice pa pl pc, .int .i64 q] 157)).cell? (ad.add j) = some u) := fun j u hj => ⟨_, rfl, news_blk (Blk.new wr #[.slice pa pl pc, .int .i64 q] 157) j u hj⟩
            have hR1 := (unhide HRE).few
            clear hal
            go_wp2_with (at_builtin; refine wpList_append_all rfl (.tmp 58) (.tmp 69) 155 rfl 157 (.agg #[.slice none 0 0, .int .i64 0]) 2 32 Tryz.underlying155 infoV rfl (by decide) (.slice ra R.length rc) R.length (R.flatMap verC) rfl (unhide OW) (some ⟨wr.heap.size, 0, none⟩) 1 1 [.slice pa pl pc, .int .i64 q] rfl rfl (unhide NW) (by intro u hu; simp only [List.mem_cons, List.not_mem_nil, or_false] at hu; rcases hu with rfl | rfl <;> rfl) (by omega) (by decide) ?_)
            intro a2 c2 w2 hap
            have HAP := hide hap
            clear hap OW NW
            go_wp2
            go_roundw
            case rel =>
              have hdk := unhide HDK
              have hre := unhide HRE
              have hap := unhide HAP
              have hs2 := (unhide HCH).size
              have C2 : Chg (fun x => (Value.slice ra R.length rc).ownBlock = some x) wr w2 := ((Chg.refl _ _).alloc _).trans hap.chg (fun k h => Or.inl h)
              have nV : ∀ g c t, Blk wr g c t → t ≠ 157 → ¬ (Value.slice ra R.length rc).ownBlock = some g := fun g c t hb ht e => by
                obtain ⟨c', hc'⟩ := own_blk hre.row g e
                exact ht (Blk.same hb hc').2
              have nR : ∀ (t : TypeId) (k : Nat) (v : Value) (m : Nat) (xs : List Value), wr.ownsRow 0 t k v m xs → t ≠ 157 → ∀ g, v.ownBlock = some g → ¬ (Value.slice ra R.length rc).ownBlock = some g := fun t k v m xs ho ht g hg => by
                obtain ⟨c, hc⟩ := own_blk ho g hg
                exact nV g c t hc ht
              have hlen : (R ++ [(Value.slice pa pl pc, q)]).length = R.length + 1 := by simp
              refine ⟨i + 1, R ++ [(.slice pa pl pc, q)], sq, a2, c2, by omega, by rw [hlen], by go_num, ⟨?_, fun p hp => ?_, fun g hg => ?_, by rw [hlen]; omega, fun e => by simp at e⟩, ⟨hdk.blk.chg C2 (nV _ _ _ hdk.blk (by decide)), own_chg hdk.saf C2 (nR _ _ _ _ _ hdk.saf (by decide)), own_chg hdk.mor C2 (nR _ _ _ _ _ hdk.mor (by decide)), own_chg hdk.ver C2 (fun x hx e => ?_), hdk.sl⟩, (unhide HCH).trans C2 (fun x e => Or.inr (hre.new x e))⟩
              · rw [hlen, List.flatMap_append]
                exact hap.own
              · rcases List.mem_append.1 hp with q | q
                · exact hre.sl p q
                · rw [List.mem_singleton.1 q]
                  exact ⟨_, _, _, rfl⟩
              · rw [hlen] at hg
                rcases hap.new g hg with q | q
                · exact hre.new g q
                · rw [World.size_alloc] at q
                  omega
              · have h1 := hre.new x e
                have h2 := unhide HV1 x (by rw [← unhide HK0 (unhide HKZ)]; exact hx)
                omega
            case measure => simp [intOf]; omega
        · obtain rfl : i = Vk.length := by omega
          have mf := hmb.free k
          have HDK := hide hdk
          have HRE := hide hre
          have HCH := hide hch
          have HMB := hide hmb
          clear hdk hre hch hsb hmb nT d1
          go_wp2
          go_roundw
          case rel =>
            have hdk := unhide HDK
            have hre := unhide HRE
            have CS : Chg (fun x => x = mb) wr (wr.setCell ⟨mb, k, none⟩ (.slice ra R.length rc)) := Chg.setCell (X := fun x => x = mb) (Chg.refl _ wr) ⟨mb, k, none⟩ _ (Or.inl rfl)
            have nS : ∀ g c t, Blk wr g c t → t ≠ 155 → ¬ g = mb := fun g c t hb ht e => by
              subst e
              exact ht (Blk.same hb (unhide HMB)).2
            have nR : ∀ (t : TypeId) (k : Nat) (v : Value) (m : Nat) (xs : List Value), wr.ownsRow 0 t k v m xs → t ≠ 155 → ∀ g, v.ownBlock = some g → ¬ g = mb := fun t k v m xs ho ht g hg => by
              obtain ⟨c, hc⟩ := own_blk ho g hg
              exact nS g c t hc ht
            have CH := (unhide HCH).trans CS (fun x e => Or.inl ((unhide HF x).2 (Or.inr (Or.inr (Or.inl (by rw [e]; rfl))))))
            have hM := own_set hdk.mor hlt (.slice ra R.length rc)
            have hf := hre.few
            have hnum := (unhide HTO).num
            have hvk := unhide HVK
            rcases Nat.eq_zero_or_pos k with hkz | hkp
            · subst hkz
              have hvl : Vk.length = V.length := by rw [hvk]; rfl
              exact ⟨0 + 1, .slice ra R.length rc, sq, R, by omega, by go_num, fun e => by omega, ⟨hdk.blk.chg CS (nS _ _ _ hdk.blk (by decide)), own_chg hdk.saf CS (nR _ _ _ _ _ hdk.saf (by decide)), hM, own_chg hre.row CS (nR _ _ _ _ _ hre.row (by decide)), hre.sl⟩, by omega, CH, fun g hg => Or.inr (hre.new g hg)⟩
            · rw [if_neg (by omega)] at hvk
              have hR : R = [] := List.length_eq_zero_iff.1 (by rw [hvk] at hf; simpa using hf)
              have hnil := hre.non hR
              rw [hnil] at hM CS CH ⊢
              refine ⟨k + 1, vv, sq, V, by omega, by go_num, fun e => by omega, ⟨hdk.blk.chg CS (nS _ _ _ hdk.blk (by decide)), own_chg hdk.saf CS (nR _ _ _ _ _ hdk.saf (by decide)), ?_, own_chg hdk.ver CS (nR _ _ _ _ _ hdk.ver (by decide)), hdk.sl⟩, hnum, CH, (unhide HTO).new⟩
              have e : (vv :: List.replicate (n - 1) (Value.slice none 0 0)).set k (.slice none 0 0) = vv :: List.replicate (n - 1) (.slice none 0 0) := by
                obtain ⟨j, rfl⟩ : ∃ j, k = j + 1 := ⟨k - 1, by omega⟩
                rw [List.set_cons_succ]
                congr 1
                apply List.ext_getElem?
                intro x
                rw [List.getElem?_set]
                split
                · split
                  · rw [List.getElem?_replicate, if_pos (by simp at *; omega)]
                  · rename_i h1 h2
                    rw [List.getElem?_replicate, if_neg (by simp at h2; omega)]
                · rfl
              rw [e] at hM
              exact hM
          case measure => simp [intOf]; omega
    · obtain rfl : k = n := by omega
      have HTO := hide hto
      clear hto
      go_wp2
      have hto := unhide HTO
      refine bodyPost_end (results_none rfl _ _ _) rfl ⟨rfl, dMem db (.slice (some ⟨sb, 0, none⟩) k cs) (.slice (some ⟨mb, 0, none⟩) k cm) vv, ⟨_, _, _, _, _, hto.dsk, hto.num, fun g => Iff.rfl⟩, hto.chg, fun b hb => ?_⟩
      rcases hb with hb | hb | hb | hb
      · exact Or.inl ((unhide HF b).2 (Or.inl hb))
      · exact Or.inl ((unhide HF b).2 (Or.inr (Or.inl hb)))
      · exact Or.inl ((unhide HF b).2 (Or.inr (Or.inr (Or.inl hb))))
      · exact hto.new b hb

end Go.Proofs.YtdcinlkkjbclmaaGreat
