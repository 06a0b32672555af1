/- The labels of a volume that is opened anew are asked for: three disks are gone. -/
import Derived.Test.YtdcinlkkjbclmabGreatROld
namespace Go.Proofs.YtdcinlkkjbclmabGreat
open Go.RowKit

theorem sec_parts {w : World} {O : List Nat} {v : Value} (h : Sec w O v) : ∃ (g dc : Nat) (cs : Array Value) (x0 x1 x2 x3 x4 x5 x6 x7 : Int), v = .slice (some ⟨g, 0, none⟩) 8 dc ∧ g ∉ O ∧ Blk w g cs 5 ∧ cs[0]? = some (.int .u8 x0) ∧ cs[1]? = some (.int .u8 x1) ∧ cs[2]? = some (.int .u8 x2) ∧ cs[3]? = some (.int .u8 x3) ∧ cs[4]? = some (.int .u8 x4) ∧ cs[5]? = some (.int .u8 x5) ∧ cs[6]? = some (.int .u8 x6) ∧ cs[7]? = some (.int .u8 x7) := by
  obtain ⟨g, dc, cs, e, h1, h2, h3⟩ := h
  obtain ⟨x0, _, y0⟩ := h3 0 (by omega)
  obtain ⟨x1, _, y1⟩ := h3 1 (by omega)
  obtain ⟨x2, _, y2⟩ := h3 2 (by omega)
  obtain ⟨x3, _, y3⟩ := h3 3 (by omega)
  obtain ⟨x4, _, y4⟩ := h3 4 (by omega)
  obtain ⟨x5, _, y5⟩ := h3 5 (by omega)
  obtain ⟨x6, _, y6⟩ := h3 6 (by omega)
  obtain ⟨x7, _, y7⟩ := h3 7 (by omega)
  exact ⟨g, dc, cs, _, _, _, _, _, _, _, _, e, h1, h2, y0, y1, y2, y3, y4, y5, y6, y7⟩
set_option maxHeartbeats 1000000 in
theorem old_done (D S tb hb vb x i B : Nat) (O : List Nat) (n : Int) (L : List Cmd) (nx : Value) (w : World) (dv : Value) (h4 : 4 ≤ D) (h8 : D ≤ 8) (hx : x < D) (hi : i < D) (hL : i + 1 + L.length = D) (hv : Vol w vb (oldA D S tb x i (⟨n, 1, (i : Int), 0, .slice none 0 0⟩ :: L)) O) (ht : OpenT w tb hb vb nx false) (hto : tb ∉ O) (hho : hb ∉ O) (hbk : Back w (Pl O B) (lgB D x i) 1 dv) :
    Calls Tryz.prog 54 #[.pointer (some ⟨vb, 0, none⟩), .int .i64 n, .bool (!lgB D x i), dv] w fun e w' => e = .returned (.int .i64 0) ∧ ∃ A' O', Vol w' vb A' O' ∧ Chg (fun b => b ∈ O ∨ b = tb ∨ b = hb) w w' ∧ (∀ b ∈ O', b ∈ O ∨ w.heap.size ≤ b) ∧ OpenT w' tb hb vb nx false ∧ A' = oldA D S tb x (i + 1) L := by
  have F := fct D x i h4 h8 hx hi
  have hLn : L = [] → cntB D x (i + 1) = 3 := fun e => F.end' (by rw [e] at hL; simpa using hL)
  by_cases hc : cntB D x i ≤ 2
  · have hA : oldA D S tb x i (⟨n, 1, (i : Int), 0, .slice none 0 0⟩ :: L) = { opA D S tb D with stand := stB D x i, told := (⟨n, 1, (i : Int), 0, .slice none 0 0⟩ :: L).map noData } := if_pos hc
    rw [hA] at hv
    cases hg : lgB D x i
    · obtain ⟨_, _, hsec⟩ | ⟨q, _⟩ := hbk
      · obtain ⟨g, dc, cs, x0, x1, x2, x3, x4, x5, x6, x7, rfl, g1, g2, y0, y1, y2, y3, y4, y5, y6, y7⟩ := sec_parts hsec
        have hgO : g ∉ O := fun h => g1 (mem_pl.2 (Or.inl h))
        refine done_read_o vb tb hb _ O n (i : Int) 0 0 g dc x0 x1 x2 x3 x4 x5 x6 x7 nx false _ w hv (by simp [noData, List.findIdx?_cons]) rfl rfl ht hto hho hgO cs g2 y0 y1 y2 y3 y4 y5 y6 y7 (fun w1 O1 v1 c1 o1 t1 => ?_)
        have hne : L ≠ [] := fun e => by have h1 := hLn e; have h2 := F.cnts hg; omega
        refine (run_idle vb _ O1 w1 v1 (Or.inr (Or.inr (Or.inl ⟨(show (0 : Int) ≠ 2 by decide), rfl, by simpa using hne⟩)))).mono ?_
        rintro e w2 ⟨rfl, rfl⟩
        refine ⟨rfl, _, O1, v1, c1.mono (fun k _ hk => hk.elim Or.inl (fun h => Or.inr (Or.inr h))), o1, t1, ?_⟩
        have : oldA D S tb x (i + 1) L = { opA D S tb D with stand := stB D x i, told := L.map noData } := by
          unfold oldA
          rw [F.cnts hg, if_pos hc, F.same hg]
        rw [this]
        rfl
      · rw [hg] at q
        rcases q with q | q
        · cases q
        · exact absurd rfl q
    · obtain ⟨q, _⟩ | ⟨_, rfl⟩ := hbk
      · rw [hg] at q; cases q
      · have hlost : failA (lostA { opA D S tb D with stand := stB D x i, told := L.map noData } i) = oldA D S tb x (i + 1) L := by
          have e1 : lostA { opA D S tb D with stand := stB D x i, told := L.map noData } i = { opA D S tb D with stand := stB D x (i + 1), told := L.map noData } := by
            unfold lostA
            rw [← F.set hg]
            rfl
          rw [e1]
          unfold failA oldA
          by_cases h2 : cntB D x (i + 1) ≤ 2
          · rw [if_pos h2, if_pos (by show ((stB D x (i + 1)).length : Int) - 2 ≤ _; rw [F.len1]; exact F.cur.2 h2)]
          · rw [if_neg h2, if_neg (by show ¬ (((stB D x (i + 1)).length : Int) - 2 ≤ _); rw [F.len1]; exact fun q => h2 (F.cur.1 q))]
            rfl
        have hidle : Idle (oldA D S tb x (i + 1) L) := by
          unfold oldA
          by_cases h2 : cntB D x (i + 1) ≤ 2
          · rw [if_pos h2]
            refine Or.inr (Or.inr (Or.inl ⟨(show (0 : Int) ≠ 2 by decide), rfl, fun e => ?_⟩))
            have e' : L = [] := by simpa using e
            have := hLn e'
            omega
          · rw [if_neg h2]
            exact Or.inl rfl
        have hat : (stB D x i).getD i 0 ≠ 1 := by rw [F.at0 hg]; decide
        refine (done_lost vb tb _ O n 1 0 i 0 w hv (by simp [noData, List.findIdx?_cons]) rfl (by show i < (stB D x i).length; rw [F.len]; exact hi) hat rfl (by show (stB D x i).length ≤ 8; rw [F.len]; exact h8) (by show 4 ≤ (stB D x i).length; rw [F.len]; exact h4) (by simp [opA, newA]) (by simp [opA, newA]) (by simp [opA, newA]) (by show Idle (failA (lostA { opA D S tb D with stand := stB D x i, told := L.map noData } i)); rw [hlost]; exact hidle)).mono ?_
        rintro e w2 ⟨rfl, O2, v2, c2, o2⟩
        refine ⟨rfl, _, O2, v2, c2.mono (fun k _ hk => Or.inl hk), o2, ht.chg c2 hto hho, hlost⟩
  · have hA : oldA D S tb x i (⟨n, 1, (i : Int), 0, .slice none 0 0⟩ :: L) = { opA D S tb D with stand := stB D x i, told := (⟨n, 1, (i : Int), 0, .slice none 0 0⟩ :: L).map noData, state := 2, at' := .nilIface } := if_neg hc
    rw [hA] at hv
    cases hg : lgB D x i
    · obtain ⟨_, _, hsec⟩ | ⟨q, _⟩ := hbk
      · obtain ⟨g, dc, cs, _, _, _, _, _, _, _, _, rfl, _⟩ := sec_parts hsec
        refine done_read_n vb _ O n (i : Int) 0 0 _ dc _ w hv (by simp [noData, List.findIdx?_cons]) rfl rfl (fun w1 O1 v1 c1 o1 => ?_)
        refine (run_idle vb _ O1 w1 v1 (Or.inl rfl)).mono ?_
        rintro e w2 ⟨rfl, rfl⟩
        refine ⟨rfl, _, O1, v1, c1.mono (fun k _ hk => Or.inl hk), o1, ht.chg c1 hto hho, ?_⟩
        have : oldA D S tb x (i + 1) L = { opA D S tb D with stand := stB D x i, told := L.map noData, state := 2, at' := .nilIface } := by
          unfold oldA
          rw [F.cnts hg, if_neg hc, F.same hg]
        rw [this]
        rfl
      · rw [hg] at q
        rcases q with q | q
        · cases q
        · exact absurd rfl q
    · exact absurd (F.few hg) hc

theorem told_all (A : VA) : toldA A A.wait.length = { A with wait := [], told := A.told ++ (numb A.lastC A.wait).map noData, lastC := A.lastC + A.wait.length } := by
  unfold toldA
  rw [List.take_length, List.drop_length]
theorem numb_at (k : Nat) (l : List Cmd) (j : Nat) (c : Cmd) (h : (numb k l)[j]? = some c) : ∃ d, l[j]? = some d ∧ c.kind = d.kind ∧ c.disk = d.disk ∧ c.sector = d.sector ∧ c.data = d.data := by
  induction l generalizing k j with
  | nil => simp [numb] at h
  | cons x r ih =>
    cases j with
    | zero =>
      simp only [numb, List.getElem?_cons_zero, Option.some.injEq] at h
      subst h
      exact ⟨x, rfl, rfl, rfl, rfl, rfl⟩
    | succ j =>
      simp only [numb, List.getElem?_cons_succ] at h
      exact ih (k + 1) j h
/-- i labels have been asked for -/
def OldB (W0 : World) (gb D S pb vb tb hb N x : Nat) (nx : Value) (lb : Nat) (L : List Cmd) (w : World) : Prop := ∃ O M i, i + L.length = D ∧ M + L.length ≤ N ∧ (∀ b ∈ O, W0.heap.size ≤ b) ∧ W0.heap.size ≤ tb ∧ W0.heap.size ≤ hb ∧ Below W0.heap.size W0 w ∧ W0.heap.size ≤ lb ∧ Rig w gb D S pb vb (Pl O W0.heap.size) (lgB D x) M ∧ Vol w vb (oldA D S tb x i L) O ∧ OpenT w tb hb vb nx false ∧ tb ∉ O ∧ hb ∉ O ∧ lb ∉ O ∧ lb < w.heap.size ∧ ∀ j c, L[j]? = some c → c.kind = 1 ∧ c.disk = ((i + j : Nat) : Int) ∧ c.sector = 0 ∧ c.data = .slice none 0 0
def OldW (W0 : World) (gb D S pb vb tb hb N x : Nat) (nx : Value) (w : World) : Prop := ∃ O M, M ≤ N ∧ (∀ b ∈ O, W0.heap.size ≤ b) ∧ W0.heap.size ≤ tb ∧ W0.heap.size ≤ hb ∧ Below W0.heap.size W0 w ∧ Rig w gb D S pb vb (Pl O W0.heap.size) (lgB D x) M ∧ Vol w vb { newA D S tb with wait := (List.range D).map (fun (k : Nat) => (⟨0, 1, (k : Int), 0, .slice none 0 0⟩ : Cmd)) } O ∧ OpenT w tb hb vb nx false ∧ tb ∉ O ∧ hb ∉ O
def OldF (W0 : World) (gb D S pb vb tb x : Nat) (w : World) : Prop := ∃ O M, (∀ b ∈ O, W0.heap.size ≤ b) ∧ Below W0.heap.size W0 w ∧ Rig w gb D S pb vb (Pl O W0.heap.size) (lgB D x) M ∧ Vol w vb (oldA D S tb x D []) O
theorem old_zero (D S tb x : Nat) (h8 : D ≤ 8) (hx : x < D) (L : List Cmd) : oldA D S tb x 0 L = { opA D S tb D with told := L.map noData } := by
  unfold oldA
  have e : cntB D x 0 = 0 := rfl
  rw [e, if_pos (by omega), stB_zero D (by omega) x (by omega)]
  rfl
set_option maxHeartbeats 1000000 in
theorem rest_old (W0 : World) (gb D S pb vb tb hb N x : Nat) (nx : Value) (w : World) (h4 : 4 ≤ D) (h8 : D ≤ 8) (hx : x < D) (hN : N ≤ 1000) (h : OldW W0 gb D S pb vb tb hb N x nx w) :
    Calls Tryz.prog 15 #[.pointer (some ⟨gb, 0, none⟩), .int .i64 5000] w fun e w' => e = .returned (.bool true) ∧ OldF W0 gb D S pb vb tb x w' := by
  refine rest_any gb pb (fun p w => (p = 1 ∧ OldW W0 gb D S pb vb tb hb N x nx w) ∨ (p = 0 ∧ OldF W0 gb D S pb vb tb x w)) (fun lb L p w => p = 1 ∧ OldB W0 gb D S pb vb tb hb (N + 8) x nx lb L w) _ (fun p w hj => ?_) (fun lb c L p w hi => ?_) (fun lb p w hi => ?_) 1 (by omega) w (Or.inl ⟨rfl, h⟩)
  · rcases hj with ⟨rfl, O, M, hM, hbo, hbt, hbh, hbe, hr, hv, ht, hto, hho⟩ | ⟨rfl, O, M, hbo, hbe, hr, hv⟩
    · have htl : tb < w.heap.size := block_lt_of_cell ht.c0
      have hhl := ht.map.lt
      obtain ⟨_, _, _, _, hgb, _⟩ := hr.own
      refine ⟨hgb.cell 2, wrapCommands pb vb _ w (hr.vol.cell 0) ((commands_any vb _ O w hv (by show ([] : List Cmd).length + ((List.range D).map _).length ≤ 60; simp; omega) (by intro c hc; simp [newA] at hc) (by show 0 ≤ 100000; omega)).mono ?_)⟩
      rintro e w' ⟨v, O', rfl, v', c', o', hh⟩
      have hnl : (numb 0 ((List.range D).map (fun (k : Nat) => (⟨0, 1, (k : Int), 0, .slice none 0 0⟩ : Cmd)))).length = D := by rw [numb_len]; simp
      have hh' : Handed w' w.heap.size v (numb 0 ((List.range D).map (fun (k : Nat) => (⟨0, 1, (k : Int), 0, .slice none 0 0⟩ : Cmd)))) O' := hh
      obtain ⟨lb, cap, e1, e2, e3, e4, e5⟩ := handed_at hh' (by rw [hnl]; omega)
      have hbs := hbe.size
      refine ⟨v, rfl, Or.inr ⟨by omega, lb, cap, _, by rw [hnl]; omega, by rw [hnl]; omega, e1, e2, rfl, O', M, 0, by rw [Nat.zero_add]; exact hnl, by rw [hnl]; omega, fun b hb' => ?_, hbt, hbh, Below.on hbe hbs c' (fun b hb' => hbo b hb'), Nat.le_trans hbs e5, rig_step hr c' o', ?_, ht.chg c' hto hho, ?_, ?_, e3, e4, fun j c hc => ?_⟩⟩
      · rcases o' b hb' with q | q; exact hbo b q; omega
      · rw [old_zero D S tb x h8 hx]
        have e : toldA { newA D S tb with wait := (List.range D).map (fun (k : Nat) => (⟨0, 1, (k : Int), 0, .slice none 0 0⟩ : Cmd)) } ((List.range D).map (fun (k : Nat) => (⟨0, 1, (k : Int), 0, .slice none 0 0⟩ : Cmd))).length = { opA D S tb D with told := (numb 0 ((List.range D).map (fun (k : Nat) => (⟨0, 1, (k : Int), 0, .slice none 0 0⟩ : Cmd)))).map noData } := by
          refine (told_all { newA D S tb with wait := (List.range D).map (fun (k : Nat) => (⟨0, 1, (k : Int), 0, .slice none 0 0⟩ : Cmd)) }).trans ?_
          simp [opA, newA]
        rw [← e]
        exact v'
      · intro ho; rcases o' _ ho with q | q; exact hto q; omega
      · intro ho; rcases o' _ ho with q | q; exact hho q; omega
      · have := numb_at 0 _ j c hc
        obtain ⟨d, hd, q1, q2, q3, q4⟩ := this
        rw [List.getElem?_map] at hd
        have hj : j < D := by
          have := (List.getElem?_eq_some_iff.1 hc).1
          rw [hnl] at this
          exact this
        rw [List.getElem?_range hj] at hd
        simp only [Option.map_some, Option.some.injEq] at hd
        subst hd
        exact ⟨q1, by rw [q2, Nat.zero_add], q3, q4⟩
    · obtain ⟨_, _, _, _, hgb, _⟩ := hr.own
      have F := fct D x (D - 1) h4 h8 hx (by omega)
      have hcD : cntB D x D = 3 := by have := F.end' (by omega); rwa [show D - 1 + 1 = D by omega] at this
      have hA : oldA D S tb x D [] = { opA D S tb D with stand := stB D x D, told := [], state := 2, at' := .nilIface } := by unfold oldA; rw [hcD]; rfl
      refine ⟨hgb.cell 2, wrapCommands pb vb _ w (hr.vol.cell 0) ((commands_any vb _ O w hv (by rw [hA]; show ([] : List Cmd).length + ([] : List Cmd).length ≤ 60; simp) (by rw [hA]; intro c hc; simp at hc) (by rw [hA]; show D ≤ 100000; omega)).mono ?_)⟩
      rintro e w' ⟨v, O', rfl, v', c', o', hh⟩
      rw [hA] at v' hh
      exact ⟨v, rfl, Or.inl ⟨rfl, handed_none hh, O', M, fun b hb' => by (have := hbe.size; rcases o' b hb' with q | q; exact hbo b q; omega), Below.on hbe hbe.size c' (fun b hb' => hbo b hb'), rig_step hr c' o', by rw [hA]; exact v'⟩⟩
  · obtain ⟨rfl, O, M, i, hiL, hM, hbo, hbt, hbh, hbe, hbl, hr, hv, ht, hto, hho, hlo, hll, hsh⟩ := hi
    simp only [List.length_cons] at hiL hM
    obtain ⟨s1, s2, s3, s4⟩ := hsh 0 c rfl
    obtain ⟨cid, ckd, cdk, cse, cda⟩ := c
    simp only [Nat.add_zero] at s1 s2 s3 s4
    subst s1 s2 s3 s4
    refine (carry_gen gb D S pb vb tb hb lb M W0.heap.size W0 O (lgB D x) _ cid i nx false (fun A' => A' = oldA D S tb x (i + 1) L) w hbe.size hbo hbt hbh hbl hbe hr (by omega) hv ht hto hho hlo hll (by omega) (fun w1 dv v1 t1 hbk => old_done D S tb hb vb x i W0.heap.size O cid L nx w1 dv h4 h8 hx (by omega) (by omega) v1 t1 hto hho hbk)).mono ?_
    rintro e w' ⟨rfl, ⟨A', O', r', v', bo', be', t', hA, a', b', l', l2'⟩, hk⟩
    subst hA
    refine ⟨rfl, ⟨rfl, O', M + 1, i + 1, by omega, by omega, bo', hbt, hbh, be', hbl, r', v', t', a', b', l', l2', fun j c hc => ?_⟩, hk⟩
    have := hsh (j + 1) c (by simpa using hc)
    rw [show i + (j + 1) = i + 1 + j by omega] at this
    exact this
  · obtain ⟨e, O, M, i, hiL, hM, hbo, hbt, hbh, hbe, hbl, hr, hv, _⟩ := hi
    obtain rfl : p = 0 := by omega
    obtain rfl : i = D := by simpa using hiL
    exact Or.inr ⟨rfl, O, M, hbo, hbe, hr, hv⟩

end Go.Proofs.YtdcinlkkjbclmabGreat
