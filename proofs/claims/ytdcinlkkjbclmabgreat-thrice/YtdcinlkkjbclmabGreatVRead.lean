/- What a volume is asked: how many disks, which are current, how it stands. -/
import Derived.Test.YtdcinlkkjbclmabGreatVDef
import Derived.Deep.AppendLies
namespace Go.Proofs.YtdcinlkkjbclmabGreat
open Go.RowKit

theorem stand_at {w : World} {b : Nat} {l : List Int} (h : Blk w b (l.map (Value.int .i64)).toArray 3) (i : Nat) (hi : i < l.length) : w.cell? ⟨b, i, none⟩ = some (.int .i64 (l.getD i 0)) := by
  rw [h.cell]
  simp [hi]
theorem disks_any (vb : Nat) (A : VA) (O : List Nat) (w : World) (h : Vol w vb A O) :
    Calls Tryz.prog 58 #[.pointer (some ⟨vb, 0, none⟩)] w fun e w' => e = .returned (.int .i64 (A.stand.length : Int)) ∧ w' = w := by
  obtain ⟨G, h, _⟩ := h
  have c0 := h.blk.cell 0
  have c0' : w.cell? ⟨vb, 0, none⟩ = some (.slice (some ⟨G.sb, 0, none⟩) A.stand.length A.stand.length) := c0
  clear c0 h
  go_enter Tryz.func58, Tryz.ntmps58
  go_wp2
  go_ret
  exact ⟨rfl, rfl⟩
theorem state_any (vb : Nat) (A : VA) (O : List Nat) (w : World) (h : Vol w vb A O) :
    Calls Tryz.prog 28 #[.pointer (some ⟨vb, 0, none⟩)] w fun e w' => e = .returned (.int .i64 A.state) ∧ w' = w := by
  obtain ⟨G, h, _⟩ := h
  have c2 : w.cell? ⟨vb, 2, none⟩ = some (.int .i64 A.state) := h.blk.cell 2
  clear h
  go_enter Tryz.func28, Tryz.ntmps28
  go_wp2
  go_ret
  exact ⟨rfl, rfl⟩
theorem isCurrent_any (vb : Nat) (A : VA) (O : List Nat) (d : Nat) (w : World) (h : Vol w vb A O) (hd : d < A.stand.length) :
    Calls Tryz.prog 78 #[.pointer (some ⟨vb, 0, none⟩), .int .i64 (d : Int)] w fun e w' => e = .returned (.bool (A.stand.getD d 0 == 0)) ∧ w' = w := by
  obtain ⟨G, h, _⟩ := h
  have c0 : w.cell? ⟨vb, 0, none⟩ = some (.slice (some ⟨G.sb, 0, none⟩) A.stand.length A.stand.length) := h.blk.cell 0
  have s0 := stand_at h.std d hd
  have hd0 : (0 : Int) ≤ (d : Int) := by omega
  have hd1 : (d : Int) < (A.stand.length : Int) := by omega
  clear h
  generalize A.stand.getD d 0 = s at *
  go_enter Tryz.func78, Tryz.ntmps78
  go_wp2
  go_ret
  exact ⟨rfl, rfl⟩

/-- the disks that are current, of the first k -/
def curTo (l : List Int) (k : Nat) : List Nat := (List.range k).filter (fun i => l.getD i 0 == 0)
def cur (l : List Int) : List Nat := curTo l l.length
theorem curTo_succ (l : List Int) (k : Nat) : curTo l (k + 1) = if (l.getD k 0 == 0) = true then curTo l k ++ [k] else curTo l k := by
  unfold curTo
  rw [List.range_succ, List.filter_append]
  split
  · rename_i h; simp [List.filter_cons]; simpa using h
  · rename_i h; simp [List.filter_cons]; simpa using h
theorem curTo_len (l : List Int) (k : Nat) : (curTo l k).length ≤ k := by
  unfold curTo
  have := List.length_filter_le (fun i => l.getD i 0 == 0) (List.range k)
  simpa using this
def ints (l : List Nat) : List Value := l.map (fun (i : Nat) => Value.int .i64 (i : Int))

theorem Tryz.infoI : (Tryz.prog.info? 3).map (fun i => (i.zero, i.size, i.bytes)) = some (some (.int .i64 0), 1, 8) := by kernel_rfl
theorem info_parts {P : Program} {t : TypeId} {z : Value} {s b : Nat} (h : (P.info? t).map (fun i => (i.zero, i.size, i.bytes)) = some (some z, s, b)) : ∃ i, P.info? t = some i ∧ i.zero = some z ∧ i.size = s ∧ i.bytes = b := by
  obtain ⟨i, hi, hz⟩ := Option.map_eq_some_iff.1 h
  simp only [Prod.mk.injEq] at hz
  exact ⟨i, hi, hz.1, hz.2.1, hz.2.2⟩
theorem ownsRow_keep {w w' : World} {base : Nat} {e : TypeId} {size : Nat} {v : Value} {n : Nat} {xs : List Value} (h : w.ownsRow base e size v n xs) (hb : Below w.heap.size w w') : w'.ownsRow base e size v n xs := by
  obtain ⟨h1, h2⟩ := h
  refine ⟨h1, ?_⟩
  rcases h2 with h2 | ⟨g, cap, cur, rfl, hg, hh, r⟩
  · exact Or.inl h2
  · exact Or.inr ⟨g, cap, cur, rfl, hg, (hb.block g (Array.getElem?_eq_some_iff.1 hh).1).trans hh, r⟩
theorem cell_one_new (w : World) (v : Value) (t : TypeId) : ∀ j u, [v][j]? = some u → (w.alloc (.cells #[v] t)).cell? ((⟨w.heap.size, 0, none⟩ : Addr).add j) = some u := fun j u hj => by
  rw [Addr.add_mid, Nat.zero_add, World.cell?_alloc_at _ _ _ _ rfl]
  simpa using hj

set_option maxHeartbeats 1000000 in
theorem current_any (vb : Nat) (A : VA) (O : List Nat) (w : World) (h : Vol w vb A O) (hs : A.stand.length ≤ 8) :
    Calls Tryz.prog 71 #[.pointer (some ⟨vb, 0, none⟩)] w fun e w' => ∃ v, e = .returned v ∧ w'.ownsRow w.heap.size 3 1 v (cur A.stand).length (ints (cur A.stand)) ∧ Below w.heap.size w w' := by
  obtain ⟨i3, hi3, hz30, hz31, hz32⟩ := info_parts Tryz.infoI
  obtain ⟨G, hG, _⟩ := id h
  have c0 : w.cell? ⟨vb, 0, none⟩ = some (.slice (some ⟨G.sb, 0, none⟩) A.stand.length A.stand.length) := hG.blk.cell 0
  have HV := hide h
  clear h hG
  go_enter Tryz.func71, Tryz.ntmps71
  go_wp2
  clear c0
  go_loopw [3, 10] (fun ov iv wr => ∃ k : Nat, k ≤ A.stand.length ∧ iv = .int .i64 (k : Int) ∧ Below w.heap.size w wr ∧ wr.ownsRow w.heap.size 3 1 ov (curTo A.stand k).length (ints (curTo A.stand k))) (fun _ i _ => A.stand.length - (intOf i).toNat)
  case atStart => exact ⟨0, Nat.zero_le _, rfl, Below.refl _ _, World.ownsRow_nil _ _ _ _⟩
  case round =>
    obtain ⟨k, hk, rfl, hbw, how⟩ := hrel
    have HB := hide hbw
    have HO := hide how
    have hsw := hbw.size
    have hlen := curTo_len A.stand k
    clear how
    rcases Nat.lt_or_ge k A.stand.length with hlt | hge
    · have hk1 : (k : Int) < (A.stand.length : Int) := by omega
      have hsu := curTo_succ A.stand k
      have HVr := hide ((unhide HV).new hbw)
      clear hbw
      go_wp2_with fail
      refine (isCurrent_any vb A O k wr (unhide HVr) hlt).mono ?_
      rintro e w1 ⟨rfl, rfl⟩
      cases hc : (A.stand.getD k 0 == 0)
      · rw [hc, if_neg (by decide)] at hsu
        have HSU := hide hsu
        clear hsu hc
        go_wp2
        go_roundw
        case rel => exact ⟨k + 1, by omega, by go_num, unhide HB, by rw [unhide HSU]; exact unhide HO⟩
        case measure => simp [intOf]; omega
      · rw [hc, if_pos rfl] at hsu
        have HSU := hide hsu
        have hba := (Below.refl w1.heap.size w1).alloc (Nat.le_refl _) (.cells #[.int .i64 (k : Int)] 3)
        have HL3 := hide (ownsRow_keep (unhide HO) hba)
        have HN1 := hide (cell_one_new w1 (.int .i64 (k : Int)) 3)
        clear hsu hc hba
        generalize hcl : curTo A.stand k = cl at *
        go_wp2_with (at_builtin; refine wpList_append_lies _ rfl _ _ 22 rfl w.heap.size 3 i3 (.int .i64 0) 1 8 Tryz.underlying22 hi3 hz30 hz31 hz32 rfl (by decide) u3 cl.length (ints cl) rfl (unhide HL3) ⟨w1.heap.size, 0, none⟩ 1 1 [.int .i64 (k : Int)] rfl rfl (unhide HN1) (by intro u hu; simp only [List.mem_singleton] at hu; subst hu; rfl) (by decide) (by unfold maxLen; omega) (by omega) (by simp; omega) (w1.heap.size + 1) (by simp) ?_)
        intro g2 c2 w4 hown2 hgrow2 hat2 hlt2
        have HO4 : Hid (w4.ownsRow w.heap.size 3 1 (.slice (some ⟨g2, 0, none⟩) (cl.length + 1) c2) (curTo A.stand (k + 1)).length (ints (curTo A.stand (k + 1)))) := by
          rw [unhide HSU, List.length_append]
          unfold ints
          rw [List.map_append]
          exact hown2
        have HB4 : Hid (Below w.heap.size w w4) := ((unhide HB).alloc hsw _).grown hgrow2 (by simp; omega) (fun j hj => ((unhide HL3).lt j hj).1)
        clear hown2 hgrow2 hat2 HL3 HN1 HSU
        go_wp2
        go_roundw
        case rel => exact ⟨k + 1, by omega, by go_num, unhide HB4, unhide HO4⟩
        case measure => simp [intOf]; omega
    · obtain rfl : k = A.stand.length := by omega
      clear hbw
      go_wp2
      go_ret
      exact ⟨_, rfl, unhide HO, unhide HB⟩

end Go.Proofs.YtdcinlkkjbclmabGreat
