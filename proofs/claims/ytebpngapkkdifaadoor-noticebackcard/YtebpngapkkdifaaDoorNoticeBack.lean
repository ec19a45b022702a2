/- NoticeBack: at every text of signs, notice and text behind: what is printed is read as it was; any other text is read as nothing; no condition but the tie of the card. -/
import Derived.Test.YtebpngapkkdifaaDoorRows
import Derived.WalkKit
import Derived.ProofKit
import Derived.OpenShut
import Derived.ChangeMaps5
import Derived.Stop.Joined
import Derived.Lay
import Derived.SevenTiedAt
import Derived.SizedLaws
import Derived.LaidMore
import Derived.Test.YtebpngapkkdifaaDoorTie
import Derived.Test.YtebpngapkkdifaaDoorCards
import Derived.Test.YtebpngapkkdifaaDoorNbk
import Derived.Test.YtebpngapkkdifaaDoorOpt
namespace Go.Proofs.YtebpngapkkdifaaDoor
open Go.ChangeShapes Go.WideShapes Go.ChangeAt Go.RowKit Go.ChangeMaps
set_option linter.unusedVariables false


theorem own : ownKnob Tryd.prog.godebug = none := by kernel_rfl
open Go.Shelf Go.Lib
/-- What lies there as a notice is told and read. -/
structure JK (w : World) (B : Nat) (ad : Option Addr) (cap : Nat) (mb : Option Nat) (l : List Int) (L : List (Nat × Int × Int × Int)) (W : World) : Prop where
  box : W.heap[B]? = some (.cells #[.slice ad l.length cap, .map mb] 27 (0, 0))
  ros : Ros B W (.agg #[.slice ad l.length cap, .map mb]) l
  p : Pow W
  t : Ut W
  j : JL w L W
theorem JK.carry {w : World} {B : Nat} {ad : Option Addr} {cap : Nat} {mb : Option Nat} {l : List Int} {L : List (Nat × Int × Int × Int)} {W W' : World} (h : JK w B ad cap mb l L W) (hb : Below W.heap.size W W') : JK w B ad cap mb l L W' :=
  ⟨(hb.block _ (lt_at h.box)).trans h.box, h.ros.call (Nat.le_of_lt (lt_at h.box)) hb, h.p.carry hb, h.t.carry hb, h.j.carry hb⟩
theorem JK.new {w : World} {B : Nat} {ad : Option Addr} {cap : Nat} {mb : Option Nat} {l : List Int} {L : List (Nat × Int × Int × Int)} {W : World} (h : JK w B ad cap mb l L W) (o t k : Int) : JK w B ad cap mb l (L ++ [(W.heap.size, o, t, k)]) (W.alloc (.cells #[.int .i64 o, .int .i64 t, .int .i64 k] 23)) :=
  ⟨old_at h.box, h.ros.alloc (Nat.le_of_lt (lt_at h.box)) _, h.p.carry (al1 _ _), h.t.carry (al1 _ _), h.j.new o t k⟩
theorem rd_bad {l : List Int} {s : ByteArray} {a b c e : Int} (h : rdD l s = (a, b, c, e)) (he : e ≠ 0) : a = 0 ∧ b = 0 ∧ c = 0 := by
  have key : ∀ x y : Int × Int × Int × Int, x = y → y = (a, b, c, e) → x = (a, b, c, e) := fun x y h1 h2 => h1.trans h2
  unfold rdD at h
  split at h
  · simp only [Prod.mk.injEq] at h
    exact ⟨h.1.symm, h.2.1.symm, h.2.2.1.symm⟩
  · split at h
    · simp only [Prod.mk.injEq] at h
      exact ⟨h.1.symm, h.2.1.symm, h.2.2.1.symm⟩
    · split at h
      · simp only [Prod.mk.injEq] at h
        exact ⟨h.1.symm, h.2.1.symm, h.2.2.1.symm⟩
      · split at h
        · simp only [Prod.mk.injEq] at h
          exact ⟨h.1.symm, h.2.1.symm, h.2.2.1.symm⟩
        · simp only [Prod.mk.injEq] at h
          exact absurd h.2.2.2.symm he
set_option maxHeartbeats 8000000 in
set_option maxRecDepth 100000 in
theorem walk (s0 : ByteArray) (w0 : s0.size ≤ maxLen) (o1 t1 k1 : Int) (wo1 : (Lit.int .i64 o1).wf = true) (wt1 : (Lit.int .i64 t1).wf = true) (wk1 : (Lit.int .i64 k1).wf = true) (s2 : ByteArray) (w2 : s2.size ≤ maxLen) (w : World) (hL : laidMetH Tryd.prog Rows.noticeBackRow.laid w) (reach2 : s2.size ≤ 140737488351232) :
    Calls Tryd.prog 3 #[.string s0, nt o1 t1 k1, .string s2] w fun e w' => e = .returned (.bool true) ∧ Below w.heap.size w w' := by
  have hLm := hL
  rw [MakeChecks.laidMetH_plain _ _ _ (by kernel_rfl)] at hLm
  have hP : Pow w := pow_met hLm (by simp [Rows.noticeBackRow])
  have hT : Ut w := tabs_met hLm (by simp [Rows.noticeBackRow]) (by simp [Rows.noticeBackRow])
  clear hLm
  have hP0 : Pow (w.alloc (.cells #[.int .i64 o1, .int .i64 t1, .int .i64 k1] 23)) := hP.carry (al1 _ _)
  have hT0 : Ut (w.alloc (.cells #[.int .i64 o1, .int .i64 t1, .int .i64 k1] 23)) := hT.carry (al1 _ _)
  have hj0 : JL w [(w.heap.size, o1, t1, k1)] (w.alloc (.cells #[.int .i64 o1, .int .i64 t1, .int .i64 k1] 23)) := by simpa using (JL.nil w).new o1 t1 k1
  have hrd := read_any s0 w0
  have hal := alive_any
  unfold RdV at hrd
  have hsg := readR_signs s0
  generalize readR s0 = R at *
  obtain ⟨l, x, y⟩ := R
  dsimp only at hrd hsg
  clear hP hT
  cases hvl : vl l.length o1 t1 k1 with
  | false =>
    have HP : Hid (∀ (M : Nat) (v : Value) (W : World), Ros M W v l → M ≤ W.heap.size → Pow W → Calls Tryd.prog 5 #[v, .agg #[.int .i64 o1, .int .i64 t1, .int .i64 k1]] W fun e' w' => e' = .returned (.tuple #[.string ⟨#[]⟩, .int .i64 50]) ∧ Below W.heap.size W w') := fun M v W h hM hT => by
      have := nprint_any W h hM o1 t1 k1 hT
      rw [prV, hvl, if_neg (by simp)] at this
      exact this
    clear hvl
    go_enter Tryd.func3, Tryd.ntmps3
    unfold nt
    go_wp2_with (first | (go_at_call 4; refine (hrd _).mono ?_; rintro e1 u1 ⟨⟨v, rfl, hv⟩, hb1⟩; obtain ⟨ad, cap, mb, rfl⟩ := hv.form; have hk1 : JK w u1.heap.size ad cap mb l [(w.heap.size, o1, t1, k1)] (u1.alloc (.cells #[.slice ad l.length cap, .map mb] 27)) := ⟨new_at rfl, hv.alloc (Nat.le_refl _) _, (hP0.carry hb1).carry (al1 _ _), (hT0.carry hb1).carry (al1 _ _), (hj0.carry hb1).old _⟩; have hx1 : NB u1 w.heap.size o1 t1 k1 := (hj0.carry hb1).get 0 rfl; have x1a := hx1.c0; have x1b := hx1.c1; have x1c := hx1.c2; have x1l := hx1.lt; have hc2 := HP.out _ _ _ hk1.ros (Nat.le_of_lt (lt_at hk1.box)) hk1.p) | (go_at_call 5; (with_reducible refine hc2.mono ?_); rintro e2 u2 ⟨rfl, hb2⟩; have hk2 : JK w u1.heap.size ad cap mb l [(w.heap.size, o1, t1, k1)] u2 := (hk1).carry hb2; have r2a := cell_at hk2.box 0; have r2b := cell_at hk2.box 1; have r2l := lt_at hk2.box; have b20a := (hk2.j.get 0 rfl).c0; have b20b := (hk2.j.get 0 rfl).c1; have b20c := (hk2.j.get 0 rfl).c2; have b20l := (hk2.j.get 0 rfl).lt) | (go_at_call 6; (with_reducible refine (hal _).mono ?_); rintro e3 u3 ⟨rfl, hb3⟩; have hk3 : JK w u1.heap.size ad cap mb l [(w.heap.size, o1, t1, k1)] u3 := (hk2).carry hb3; have r3a := cell_at hk3.box 0; have r3b := cell_at hk3.box 1; have r3l := lt_at hk3.box; have b30a := (hk3.j.get 0 rfl).c0; have b30b := (hk3.j.get 0 rfl).c1; have b30c := (hk3.j.get 0 rfl).c2; have b30l := (hk3.j.get 0 rfl).lt))
    go_ret
    exact ⟨rfl, hk3.j.below⟩
  | true =>
    obtain ⟨hrp, hXs⟩ := rd_print hsg hvl
    have HP : Hid (∀ (M : Nat) (v : Value) (W : World), Ros M W v l → M ≤ W.heap.size → Pow W → Calls Tryd.prog 5 #[v, .agg #[.int .i64 o1, .int .i64 t1, .int .i64 k1]] W fun e' w' => e' = .returned (.tuple #[.string (prT (l.getD o1.toNat 0) t1 k1), .int .i64 0]) ∧ Below W.heap.size W w') := fun M v W h hM hT => by
      have := nprint_any W h hM o1 t1 k1 hT
      rw [prV, hvl, if_pos rfl] at this
      exact this
    generalize prT (l.getD o1.toNat 0) t1 k1 = X at *
    have HR : Hid (∀ (M : Nat) (v : Value) (W : World), Ros M W v l → M ≤ W.heap.size → Ut W → Calls Tryd.prog 7 #[v, .string X] W fun e' w' => e' = .returned (.tuple #[.agg #[.int .i64 o1, .int .i64 t1, .int .i64 k1], .int .i64 0]) ∧ Below W.heap.size W w') := fun M v W h hM hT => by
      have := nread_any W h hM X (by unfold maxLen; omega) hT
      rw [rd_eq hsg, hrp] at this
      exact this
    have hcat : X.size + s2.size ≤ 9223372036854775807 := by omega
    obtain ⟨⟨a, b, c, e⟩, hrz⟩ : ∃ r, rdD l (X ++ s2) = r := ⟨_, rfl⟩
    have HZ : Hid (∀ (M : Nat) (v : Value) (W : World), Ros M W v l → M ≤ W.heap.size → Ut W → Calls Tryd.prog 7 #[v, .string (X ++ s2)] W fun e' w' => e' = .returned (.tuple #[.agg #[.int .i64 a, .int .i64 b, .int .i64 c], .int .i64 e]) ∧ Below W.heap.size W w') := fun M v W h hM hT => by
      have := nread_any W h hM (X ++ s2) (by rw [ByteArray.size_append]; unfold maxLen; omega) hT
      rw [rd_eq hsg, hrz] at this
      exact this
    by_cases he : e = 0
    · subst he
      obtain ⟨hv2, hp2⟩ := rd_back hsg hrz
      have HQ : Hid (∀ (M : Nat) (v : Value) (W : World), Ros M W v l → M ≤ W.heap.size → Pow W → Calls Tryd.prog 5 #[v, .agg #[.int .i64 a, .int .i64 b, .int .i64 c]] W fun e' w' => e' = .returned (.tuple #[.string (X ++ s2), .int .i64 0]) ∧ Below W.heap.size W w') := fun M v W h hM hT => by
        have := nprint_any W h hM a b c hT
        rw [prV, hv2, if_pos rfl, hp2] at this
        exact this
      clear hvl hrp hrz hv2 hp2
      go_enter Tryd.func3, Tryd.ntmps3
      unfold nt
      go_wp2_with (first | (go_at_call 4; refine (hrd _).mono ?_; rintro e1 u1 ⟨⟨v, rfl, hv⟩, hb1⟩; obtain ⟨ad, cap, mb, rfl⟩ := hv.form; have hk1 : JK w u1.heap.size ad cap mb l [(w.heap.size, o1, t1, k1)] (u1.alloc (.cells #[.slice ad l.length cap, .map mb] 27)) := ⟨new_at rfl, hv.alloc (Nat.le_refl _) _, (hP0.carry hb1).carry (al1 _ _), (hT0.carry hb1).carry (al1 _ _), (hj0.carry hb1).old _⟩; have hx1 : NB u1 w.heap.size o1 t1 k1 := (hj0.carry hb1).get 0 rfl; have x1a := hx1.c0; have x1b := hx1.c1; have x1c := hx1.c2; have x1l := hx1.lt; have hc2 := HP.out _ _ _ hk1.ros (Nat.le_of_lt (lt_at hk1.box)) hk1.p) | (go_at_call 5; (with_reducible refine hc2.mono ?_); rintro e2 u2 ⟨rfl, hb2⟩; have hk2 : JK w u1.heap.size ad cap mb l [(w.heap.size, o1, t1, k1)] u2 := (hk1).carry hb2; have r2a := cell_at hk2.box 0; have r2b := cell_at hk2.box 1; have r2l := lt_at hk2.box; have b20a := (hk2.j.get 0 rfl).c0; have b20b := (hk2.j.get 0 rfl).c1; have b20c := (hk2.j.get 0 rfl).c2; have b20l := (hk2.j.get 0 rfl).lt; have hc3 := HR.out _ _ _ hk2.ros (Nat.le_of_lt (lt_at hk2.box)) hk2.t) | (go_at_call 7; (with_reducible refine hc3.mono ?_); rintro e3 u3 ⟨rfl, hb3⟩; have hk3 : JK w u1.heap.size ad cap mb l [(w.heap.size, o1, t1, k1)] u3 := (hk2).carry hb3; have r3a := cell_at hk3.box 0; have r3b := cell_at hk3.box 1; have r3l := lt_at hk3.box; have b30a := (hk3.j.get 0 rfl).c0; have b30b := (hk3.j.get 0 rfl).c1; have b30c := (hk3.j.get 0 rfl).c2; have b30l := (hk3.j.get 0 rfl).lt; have hm3 : JK w u1.heap.size ad cap mb l [(w.heap.size, o1, t1, k1), (u3.heap.size, o1, t1, k1)] (u3.alloc (.cells #[.int .i64 o1, .int .i64 t1, .int .i64 k1] 23)) := (by simpa using hk3.new o1 t1 k1); have hc4 := HZ.out _ _ _ hm3.ros (Nat.le_of_lt (lt_at hm3.box)) hm3.t) | (go_at_call 7; (with_reducible refine hc4.mono ?_); rintro e4 u4 ⟨rfl, hb4⟩; have hk4 : JK w u1.heap.size ad cap mb l [(w.heap.size, o1, t1, k1), (u3.heap.size, o1, t1, k1)] u4 := (hm3).carry hb4; have r4a := cell_at hk4.box 0; have r4b := cell_at hk4.box 1; have r4l := lt_at hk4.box; have b40a := (hk4.j.get 0 rfl).c0; have b40b := (hk4.j.get 0 rfl).c1; have b40c := (hk4.j.get 0 rfl).c2; have b40l := (hk4.j.get 0 rfl).lt; have b41a := (hk4.j.get 1 rfl).c0; have b41b := (hk4.j.get 1 rfl).c1; have b41c := (hk4.j.get 1 rfl).c2; have b41l := (hk4.j.get 1 rfl).lt; have hm4 : JK w u1.heap.size ad cap mb l [(w.heap.size, o1, t1, k1), (u3.heap.size, o1, t1, k1), (u4.heap.size, a, b, c)] (u4.alloc (.cells #[.int .i64 a, .int .i64 b, .int .i64 c] 23)) := (by simpa using hk4.new a b c); have hc5 := HQ.out _ _ _ hm4.ros (Nat.le_of_lt (lt_at hm4.box)) hm4.p) | (go_at_call 5; (with_reducible refine hc5.mono ?_); rintro e5 u5 ⟨rfl, hb5⟩; have hk5 : JK w u1.heap.size ad cap mb l [(w.heap.size, o1, t1, k1), (u3.heap.size, o1, t1, k1), (u4.heap.size, a, b, c)] u5 := (hm4).carry hb5; have r5a := cell_at hk5.box 0; have r5b := cell_at hk5.box 1; have r5l := lt_at hk5.box; have b50a := (hk5.j.get 0 rfl).c0; have b50b := (hk5.j.get 0 rfl).c1; have b50c := (hk5.j.get 0 rfl).c2; have b50l := (hk5.j.get 0 rfl).lt; have b51a := (hk5.j.get 1 rfl).c0; have b51b := (hk5.j.get 1 rfl).c1; have b51c := (hk5.j.get 1 rfl).c2; have b51l := (hk5.j.get 1 rfl).lt; have b52a := (hk5.j.get 2 rfl).c0; have b52b := (hk5.j.get 2 rfl).c1; have b52c := (hk5.j.get 2 rfl).c2; have b52l := (hk5.j.get 2 rfl).lt) | (go_at_call 6; (with_reducible refine (hal _).mono ?_); rintro e6 u6 ⟨rfl, hb6⟩; have hk6 : JK w u1.heap.size ad cap mb l [(w.heap.size, o1, t1, k1), (u3.heap.size, o1, t1, k1), (u4.heap.size, a, b, c)] u6 := (hk5).carry hb6; have r6a := cell_at hk6.box 0; have r6b := cell_at hk6.box 1; have r6l := lt_at hk6.box; have b60a := (hk6.j.get 0 rfl).c0; have b60b := (hk6.j.get 0 rfl).c1; have b60c := (hk6.j.get 0 rfl).c2; have b60l := (hk6.j.get 0 rfl).lt; have b61a := (hk6.j.get 1 rfl).c0; have b61b := (hk6.j.get 1 rfl).c1; have b61c := (hk6.j.get 1 rfl).c2; have b61l := (hk6.j.get 1 rfl).lt; have b62a := (hk6.j.get 2 rfl).c0; have b62b := (hk6.j.get 2 rfl).c1; have b62c := (hk6.j.get 2 rfl).c2; have b62l := (hk6.j.get 2 rfl).lt))
      go_ret
      exact ⟨rfl, hk6.j.below⟩
    · obtain ⟨rfl, rfl, rfl⟩ := rd_bad hrz he
      clear hvl hrp hrz
      go_enter Tryd.func3, Tryd.ntmps3
      unfold nt
      go_wp2_with (first | (go_at_call 4; refine (hrd _).mono ?_; rintro e1 u1 ⟨⟨v, rfl, hv⟩, hb1⟩; obtain ⟨ad, cap, mb, rfl⟩ := hv.form; have hk1 : JK w u1.heap.size ad cap mb l [(w.heap.size, o1, t1, k1)] (u1.alloc (.cells #[.slice ad l.length cap, .map mb] 27)) := ⟨new_at rfl, hv.alloc (Nat.le_refl _) _, (hP0.carry hb1).carry (al1 _ _), (hT0.carry hb1).carry (al1 _ _), (hj0.carry hb1).old _⟩; have hx1 : NB u1 w.heap.size o1 t1 k1 := (hj0.carry hb1).get 0 rfl; have x1a := hx1.c0; have x1b := hx1.c1; have x1c := hx1.c2; have x1l := hx1.lt; have hc2 := HP.out _ _ _ hk1.ros (Nat.le_of_lt (lt_at hk1.box)) hk1.p) | (go_at_call 5; (with_reducible refine hc2.mono ?_); rintro e2 u2 ⟨rfl, hb2⟩; have hk2 : JK w u1.heap.size ad cap mb l [(w.heap.size, o1, t1, k1)] u2 := (hk1).carry hb2; have r2a := cell_at hk2.box 0; have r2b := cell_at hk2.box 1; have r2l := lt_at hk2.box; have b20a := (hk2.j.get 0 rfl).c0; have b20b := (hk2.j.get 0 rfl).c1; have b20c := (hk2.j.get 0 rfl).c2; have b20l := (hk2.j.get 0 rfl).lt; have hc3 := HR.out _ _ _ hk2.ros (Nat.le_of_lt (lt_at hk2.box)) hk2.t) | (go_at_call 7; (with_reducible refine hc3.mono ?_); rintro e3 u3 ⟨rfl, hb3⟩; have hk3 : JK w u1.heap.size ad cap mb l [(w.heap.size, o1, t1, k1)] u3 := (hk2).carry hb3; have r3a := cell_at hk3.box 0; have r3b := cell_at hk3.box 1; have r3l := lt_at hk3.box; have b30a := (hk3.j.get 0 rfl).c0; have b30b := (hk3.j.get 0 rfl).c1; have b30c := (hk3.j.get 0 rfl).c2; have b30l := (hk3.j.get 0 rfl).lt; have hm3 : JK w u1.heap.size ad cap mb l [(w.heap.size, o1, t1, k1), (u3.heap.size, o1, t1, k1)] (u3.alloc (.cells #[.int .i64 o1, .int .i64 t1, .int .i64 k1] 23)) := (by simpa using hk3.new o1 t1 k1); have hc4 := HZ.out _ _ _ hm3.ros (Nat.le_of_lt (lt_at hm3.box)) hm3.t) | (go_at_call 7; (with_reducible refine hc4.mono ?_); rintro e4 u4 ⟨rfl, hb4⟩; have hk4 : JK w u1.heap.size ad cap mb l [(w.heap.size, o1, t1, k1), (u3.heap.size, o1, t1, k1)] u4 := (hm3).carry hb4; have r4a := cell_at hk4.box 0; have r4b := cell_at hk4.box 1; have r4l := lt_at hk4.box; have b40a := (hk4.j.get 0 rfl).c0; have b40b := (hk4.j.get 0 rfl).c1; have b40c := (hk4.j.get 0 rfl).c2; have b40l := (hk4.j.get 0 rfl).lt; have b41a := (hk4.j.get 1 rfl).c0; have b41b := (hk4.j.get 1 rfl).c1; have b41c := (hk4.j.get 1 rfl).c2; have b41l := (hk4.j.get 1 rfl).lt; have hm4 : JK w u1.heap.size ad cap mb l [(w.heap.size, o1, t1, k1), (u3.heap.size, o1, t1, k1), (u4.heap.size, 0, 0, 0)] (u4.alloc (.cells #[.int .i64 0, .int .i64 0, .int .i64 0] 23)) := (by simpa using hk4.new 0 0 0)) | (go_at_call 6; (with_reducible refine (hal _).mono ?_); rintro e6 u6 ⟨rfl, hb6⟩; have hk6 : JK w u1.heap.size ad cap mb l [(w.heap.size, o1, t1, k1), (u3.heap.size, o1, t1, k1), (u4.heap.size, 0, 0, 0)] u6 := (hm4).carry hb6; have r6a := cell_at hk6.box 0; have r6b := cell_at hk6.box 1; have r6l := lt_at hk6.box; have b60a := (hk6.j.get 0 rfl).c0; have b60b := (hk6.j.get 0 rfl).c1; have b60c := (hk6.j.get 0 rfl).c2; have b60l := (hk6.j.get 0 rfl).lt; have b61a := (hk6.j.get 1 rfl).c0; have b61b := (hk6.j.get 1 rfl).c1; have b61c := (hk6.j.get 1 rfl).c2; have b61l := (hk6.j.get 1 rfl).lt; have b62a := (hk6.j.get 2 rfl).c0; have b62b := (hk6.j.get 2 rfl).c1; have b62c := (hk6.j.get 2 rfl).c2; have b62l := (hk6.j.get 2 rfl).lt))
      go_ret
      exact ⟨rfl, hk6.j.below⟩

set_option maxRecDepth 100000 in
theorem lifted (os : Os) (started : os.Started) (H : Type) (enc : TypeId × Value → H) :
    ReturnsInHanded {} Tryd.checked os 3 .any (fun w args => (Rows.noticeBackSpec.pre enc Tryd.prog Tryd.f3 [] false w args ∧ laidMetH Tryd.prog Rows.noticeBackRow.laid w) ∧ sizedMet enc Tryd.prog Tryd.f3 (OpenSpec.ofChange Rows.noticeBackSpec) false w args)
      (Rows.noticeBackSpec.post enc Tryd.prog Tryd.f3 false true false false) := by
  refine returnsInHanded_of_change_and (C := Tryd.checked) (X := fun w _ => laidMetH Tryd.prog Rows.noticeBackRow.laid w) (fun _ _ _ hh h => h.of_heap hh) own started (by kernel_rfl) Tryd.func3
    (ChangeSpec.witness_shaped (enc := enc) (C := Tryd.checked) (os := os) (X := fun w _ => laidMetH Tryd.prog Rows.noticeBackRow.laid w) false (World.laidAll Tryd.prog os Rows.noticeBackRow.laid) #[.string ByteArray.empty, .agg #[.int .i64 0, .int .i64 0, .int .i64 0], .string ByteArray.empty] 8 (World.laidAll_os _ _ _)
      (World.shaped_of_ZipB (by kernel_rfl) (by kernel_rfl)) (by kernel_rfl) (by kernel_rfl) (by kernel_rfl)
      (by rw [MakeChecks.laidMetH_plain _ _ _ (by kernel_rfl)]; exact laidMet_laidAll _ (by kernel_rfl) (by kernel_rfl))) ?_
  intro W base args ds gs before hval0 hW _ hsz hL _
  have hval : ∀ (j : Nat) t v, Tryd.f3.params[j]? = some t → args[j]? = some v → Value.okWide Tryd.prog W .any base t v := hval0
  have hW' := hW
  obtain ⟨p, q, hA0, hV, rfl, hfz, hnd⟩ := hW
  have hA : DataW.TrodAll enc Tryd.prog W 0 (fun _ => true) true Tryd.f3.params.toList args.toList ds p := hA0
  rw [Tryd.params3] at hA hval
  obtain ⟨v0, vs0, d0, ds0, p0, q0, hargs, rfl, rfl, h0, r0⟩ := trodAll_cons hA
  obtain ⟨v1, vs1, d1, ds1, p1, q1, rfl, rfl, rfl, h1, r1⟩ := trodAll_cons r0
  obtain ⟨v2, vs2, d2, ds2, p2, q2, rfl, rfl, rfl, h2, r2⟩ := trodAll_cons r1
  obtain ⟨rfl, rfl, rfl⟩ := trodAll_nil r2
  obtain rfl : args = #[v0, v1, v2] := by cases args; simp_all
  obtain ⟨rfl, rfl⟩ := trodVars_none hV
  obtain ⟨s0, rfl, rfl, rfl, w0⟩ := open_string Tryd.underlying9 (hval 0 9 v0 rfl rfl) h0
  obtain ⟨o1, t1, k1, rfl, rfl, rfl, wo1, wt1, wk1⟩ := open_nt (hval 1 23 v1 rfl rfl) h1
  obtain ⟨s2, rfl, rfl, rfl, w2⟩ := open_string Tryd.underlying9 (hval 2 9 v2 rfl rfl) h2
  have reach2 : s2.size ≤ 140737488351232 := by
    have := sized_string hsz (j := 2) (t := 9) rfl rfl
    simpa [reachBytes] using this
  clear hA0 hval0
  simp only [List.append_nil] at hW'
  refine (walk s0 w0 o1 t1 k1 wo1 wt1 wk1 s2 w2 W hL reach2).mono fun e W' ⟨he, hg⟩ => ?_
  subst he
  exact ⟨_, rfl, _, _, _, [], _, [], hW', (trodAll_cons_mk (shut_bool Tryd.underlying4 _) trodAll_mk0), (trodAll_cons_mk (shut_string Tryd.underlying9 w0) (trodAll_cons_mk (shut_nt wo1 wt1 wk1) (trodAll_cons_mk (shut_string Tryd.underlying9 w2) trodAll_mk0))), rfl, hg.frame _, fun h => by cases h⟩

theorem over : Rows.noticeBackRow.holds Tryd.pinned (OpenSpec.ofChange Rows.noticeBackSpec) :=
  OpenClaim.holds_of_wide 3 Tryd.f3 rfl rfl rfl rfl rfl rfl rfl ⟨rfl, rfl, rfl, rfl, rfl⟩ rfl rfl rfl rfl rfl (by kernel_rfl) Tryd.func3 (by kernel_rfl)
    (of_decide_eq_true (by kernel_rfl)) (by unfold Func.isWrapper; first | (rw [if_pos (by decide +kernel)]; kernel_rfl) | (rw [if_neg (by decide +kernel)]; exact ⟨rfl, rfl⟩))
    (fun os started H enc _ => lifted os started H enc)

theorem row_proved : Rows.NoticeBackSaid :=
  over
theorem proved : Rows.NoticeBackCardSaid :=
  Claim7.holds_tied_plain_at .later [] [.data, .data, .data, .data, .pinned] true (true, "0a37b18e3e73f25152aa61688aec0802900b7419edb4f4f9ca2492ee12e4b976") false
    row_proved (fun _ h => by cases h) (by kernel_rfl) (fun _ h => by cases h) noticeBack_row_tie rfl ⟨rfl, rfl⟩ (by kernel_rfl) rfl
    (fun f fn hf hfn => by
      obtain rfl : f = 3 := Option.some.inj ((show Tryd.prog.funcNamed "earshot/earshotlaw5.NoticeBack" = some 3 by kernel_rfl).symm.trans hf) |>.symm
      obtain rfl : fn = Tryd.f3 := (Option.some.inj (Tryd.func3.symm.trans hfn)).symm
      exact ⟨by kernel_rfl, fun j t ht => by
        rw [Tryd.params3] at ht
        rcases j with _ | j
        · have e : t = 9 := by simpa using ht.symm
          subst e
          exact (show Tryd.prog.wantsStandIn 9 = false by kernel_rfl)
        rcases j with _ | j
        · have e : t = 23 := by simpa using ht.symm
          subst e
          exact (show Tryd.prog.wantsStandIn 23 = false by kernel_rfl)
        rcases j with _ | j
        · have e : t = 9 := by simpa using ht.symm
          subst e
          exact (show Tryd.prog.wantsStandIn 9 = false by kernel_rfl)
        simp at ht⟩)
    (by kernel_rfl)
#print axioms proved
end Go.Proofs.YtebpngapkkdifaaDoor
