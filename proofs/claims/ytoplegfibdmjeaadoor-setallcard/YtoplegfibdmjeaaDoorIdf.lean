/- idset.Ids: its list is full. -/
import Derived.Test.YtoplegfibdmjeaaDoorBxs
import Derived.Room.AppendAny
import Derived.Test.YtoplegfibdmjeaaDoorItx
import Derived.Test.YtoplegfibdmjeaaDoorOwn
import Derived.Maps.AppendAt
import Derived.Maps.OwnIn
namespace Go.Proofs.YtoplegfibdmjeaaDoor
open Go.RowKit Go.Shelf Go.Lib
attribute [local go_sem] Oper.semAt_some

/-- An append within the room behind the row. -/
theorem append_in {P : Program} (w : World) (base : Nat) (t ty e : TypeId) (i : TypeInfo) (ht : P.underlying t = some (.slice e)) (hi : P.info? e = some i) (hsize : i.size = 1) (g n cap : Nat) (xs : List Value) (hown : w.ownsRow base e 1 (.slice (some ⟨g, 0, none⟩) n cap) n xs)
    (a : Addr) (m c : Nat) (news : List Value) (hl : news.length = m * 1) (hnews : ∀ j u, news[j]? = some u → w.cell? (a.add j) = some u) (h1 : ∀ u ∈ news, u.oneCell' = true) (hroom : n + m ≤ cap) :
    ∃ w', (Builtin.append_ #[t, t] ty #[.slice (some ⟨g, 0, none⟩) n cap, .slice (some a) m c]).run P w = .ok (.slice (some ⟨g, 0, none⟩) (n + m) cap) w' ∧ w'.ownsRow base e 1 (.slice (some ⟨g, 0, none⟩) (n + m) cap) (n + m) (xs ++ news) ∧ w.grownBy w' (some g) := by
  have hlen : (xs ++ news).length = (n + m) * 1 := by rw [List.length_append, hown.1, hl, Nat.add_mul]
  rcases hown.2 with ⟨h, _⟩ | ⟨g', cap', cur, h, hbg, hg, hnc, hcm, hcs, htake⟩
  · cases h
  · cases h
    have hfit : n * i.size + news.length ≤ cur.size := by rw [hl, hcs, hsize, ← Nat.add_mul]; exact Nat.mul_le_mul_right _ hroom
    have hr := run_append_room (P := P) w t ty e i ht hi g n cap cur hg a m c news (by rw [hsize]; exact hl) hnews h1 hroom hfit
    refine ⟨_, hr, ⟨hlen, .inr ⟨g, cap, _, rfl, hbg, setRow_heap w g cur _ e _ hg, hroom, hcm, ?_, ?_⟩⟩, ⟨rfl, rfl, rfl, by simp, fun k _ hk => setRow_other w g k _ (fun e => hk (by rw [e]))⟩⟩
    · rw [hsize] at hfit ⊢
      simp only [List.size_toArray, List.length_append, List.length_take, List.length_drop, Array.length_toList]
      omega
    · rw [hsize, htake, ← hlen]
      exact List.take_left
theorem wpListIn_append_run {F : Fence} {n : Nat} {P : Program} {ops : Array Oper} {rest : List Oper} {o : Oper} {a : Act} {w : World} {Q : Exit → Act → World → Prop} (hgd : o.guard = none) (s x : Operand) (t : TypeId)
    (ho : o.op = .call { callee := .builtin .append, args := #[s, x], argTypes := #[t, t] }) (vs vx : Value) (hs : a.eval s = vs) (hx : a.eval x = vx) (v' : Value) (w' : World)
    (hr : (Builtin.append_ #[t, t] o.type #[vs, vx]).run P w = .ok v' w') (h : wpListIn F n P ops Q rest (a.put o.dst v') w') : wpListIn F n P ops Q (o :: rest) a w := by
  refine wpListIn_plain hgd fun K hK => ?_
  unfold Oper.wpIn
  refine ⟨by simp [Oper.about, ho, resolve, Target.leads, Sem.run_pure], ?_⟩
  rw [Oper.semAt_plain F _ _ (by rw [ho]; intro c hc'; cases hc')]
  simp [execOp, ho, resolve, invoke, builtin, hs, hx, hr, Result.andThen]
  exact hK _ _ h

set_option maxHeartbeats 1000000 in
set_option maxRecDepth 100000 in
theorem idsF_in (N : Nat) (w : World) (hT : Tab w) :
    CallsIn Fence.wide 0 Tryd.prog 5 #[sv N] w fun e w' => ∃ g, e = .returned (.slice (some ⟨g, 0, none⟩) (cnt (cln N)) (cnt (cln N))) ∧ w'.ownsRow w.heap.size 3 1 (.slice (some ⟨g, 0, none⟩) (cnt (cln N)) (cnt (cln N))) (cnt (cln N)) (intsV (idsTo (cln N) 128)) ∧ Below w.heap.size w w' := by
  have hc := all_any N
  have hn := count_any N
  have hle : cnt (cln N) ≤ 128 := cnt_le _
  have hlen : (idsTo (cln N) 128).length = cnt (cln N) := idsTo_length _ _
  generalize cln N = M at *
  have hT0 := hT.lt
  simp only [sv] at hc hn ⊢
  obtain ⟨ic, hic, hz0, hz1, hz2⟩ := info_parts infoInt
  have hmk0 : ∀ W : World, (Instr.makeSlice 42 (.int .i64 0) (.int .i64 ((cnt M : Nat) : Int))).run Tryd.prog W = .ok (.slice (some ⟨W.heap.size, 0, none⟩) 0 (cnt M)) (W.alloc (.cells (List.replicate (cnt M) (.int .i64 0)).toArray 3)) := by
    intro W
    have h := run_make (P := Tryd.prog) W 42 3 ic _ Tryd.underlying42 hic hz0 .i64 .i64 0 ((cnt M : Nat) : Int) (by omega) (by omega) (by rw [hz2]; omega) (by omega)
    rw [h, hz1]
    have e : madeCells (Value.int .i64 0).cells ((((cnt M : Nat) : Int).toNat) * 1) = (List.replicate (cnt M) (.int .i64 0)).toArray := by
      apply Array.toList_inj.1
      have := toList_madeCells_one (.int .i64 0) (cnt M)
      simpa [Value.cells] using this
    rw [e]; rfl
  generalize cnt M = C at *
  refine callsIn_of_wp_marks Tryd.func5 rfl trivial ?_ rfl
  simp only [Tryd.ntmps5, List.size_toArray, List.length_cons, List.length_nil, Nat.reduceAdd, Nat.reduceSub, Array.replicate_succ, Array.replicate_zero, List.push_toArray, List.append_toArray, List.nil_append, List.cons_append]
  gi_wp2
  with_reducible (refine And.intro (wfn _) (And.intro wdep ?_))
  refine (callsIn_wide.2 (hn _)).mono ?_
  rintro e w1 ⟨rfl, hb1⟩
  have hmk := hmk0 w1
  have q : Hid (Holds4 w1 w.heap.size (wd N)) := (hb1.block _ (by simp)).trans (get_new (by simp))
  have hs1 : w.heap.size < w1.heap.size := q.out.lt
  obtain ⟨y0, y1, y2, y3, z0, z1, z2, z3⟩ := q.out.facts
  gi_wp2
  with_reducible (refine And.intro (wfn _) (And.intro wdep ?_))
  refine (callsIn_wide.2 (hc _)).mono ?_
  rintro e W0 ⟨rfl, hb, hh⟩
  have b1 : Below w.heap.size w w1 := ((Below.refl _ w).alloc (by simp) _).trans (hb1.mono (by simp))
  have zz : w1.heap.size + 3 ≤ W0.heap.size := by have := hh.lt; simp at this; omega
  have b0 : Below w.heap.size w W0 := ((b1.alloc (by omega) _).alloc (by simp; omega) _).trans (hb.mono (by simp; omega))
  have g0 : W0.heap[w1.heap.size]? = some (.cells (Array.replicate C (.int .i64 0)) 3) := (hb.block _ (by simp; omega)).trans (get_old (get_new (by simp)))
  have v0 : Boxed W0 (w1.heap.size + 1) 42 (.slice (some ⟨w1.heap.size, 0, none⟩) 0 C) := (hb.block _ (by simp)).trans (get_new (by simp))
  have o0 : W0.ownsRow w.heap.size 3 1 (.slice (some ⟨w1.heap.size, 0, none⟩) 0 C) 0 [] := ⟨rfl, .inr ⟨_, C, _, rfl, by omega, g0, by omega, by unfold maxLen; omega, by simp, by simp⟩⟩
  clear hb hc hn hmk hmk0 hb1 q y0 y1 y2 y3 z0 z1 z2 z3
  have hh' : Holds4 W0 (w1.heap.size + 1 + 1) (wd M) := by simpa using hh
  gi_wp2
  refine wp_rangeE (kb := 0) (gf := 19) (lb := #[.pointer (some ⟨w1.heap.size + 1 + 1, 0, none⟩)]) rfl (enters_of Tryd.func19 (by kernel_rfl) rfl)
    (all1_seq M (w1.heap.size + 1 + 1) _ hh') (by omega) (fun _ => rfl)
    (fun pre W => (∃ v, Boxed W (w1.heap.size + 1) 42 v ∧ W.ownsRow w.heap.size 3 1 v pre.length (intsV pre) ∧ ∃ n, v = .slice (some ⟨w1.heap.size, 0, none⟩) n C) ∧ Below w.heap.size w W)
    (fun _ _ _ => False)
    (OwnFrom.and ((rowBoxP_own _ _ _ _ _ (fun pre : List Nat => pre.length) intsV _).from _) (ownFrom_below (Nat.le_refl _) (by omega)))
    (fun _ _ _ _ _ hs _ _ => hs)
    ⟨⟨_, v0, o0, _, rfl⟩, b0⟩ (fun _ W h => hT.keep h.2 hT0)
    (fun x a' _ => a' = { tmps := #[sv N, .pointer (some ⟨w.heap.size, 0, none⟩), .slice none 0 0, .pointer (some ⟨w1.heap.size + 1, 0, none⟩), .int .i64 (x : Nat), sv N, .int .i64 (C : Nat), .slice (some ⟨w1.heap.size, 0, none⟩) 0 C, sv N, .func (.func 19) #[] #[.pointer (some ⟨w1.heap.size + 1 + 1, 0, none⟩)], .int .i64 (x : Nat), undef, undef, undef, undef, undef], defers := [] })
    (fun _ _ _ _ _ _ hs _ _ => hs) ?assign ?body ?done ?stop
  case assign =>
    rintro l pre x W K hi hsz hK
    gi_wp2
    exact hK _ _ (Kept.refl _ _ _ _) hi rfl
  case body =>
    rintro l pre x a' W ⟨⟨v, hv, hrow, n, rfl⟩, hb⟩ rfl hsz hpr
    obtain rfl : n = pre.length := by
      obtain ⟨a1, c1, e1, _⟩ := ownsRow_form hrow
      cases e1
      rfl
    have hcv := hv.cell
    have hpl : (pre ++ [x]).length ≤ (idsTo M 128).length := hpr.length_le
    simp only [List.length_append, List.length_cons, List.length_nil] at hpl
    obtain ⟨wA, hrun, hown', hgrow⟩ := append_in (P := Tryd.prog) (W.alloc (.cells #[.int .i64 ((x : Nat) : Int)] 3)) w.heap.size 42 42 3 ic Tryd.underlying42 hic hz1 w1.heap.size pre.length C (intsV pre) (hrow.alloc _) ⟨W.heap.size, 0, none⟩ 1 1 [.int .i64 ((x : Nat) : Int)] rfl (one_new _ _ _) (by simp [Value.oneCell']) (by omega)
    have hv1 : Boxed wA (w1.heap.size + 1) 42 (.slice (some ⟨w1.heap.size, 0, none⟩) pre.length C) := (hv.alloc _).kept hgrow (fun e' => by simp at e')
    have hc1 := hv1.cell
    have hf1 := hv1.frozen
    gi_wp2_with (gi_at_builtin; refine wpListIn_append_run rfl _ _ 42 rfl _ _ rfl rfl _ _ hrun ?_)
    refine ⟨?_, ⟨⟨_, hv1.set _, ?_, _, rfl⟩, ?_⟩⟩
    · refine ((Kept.below ((Below.refl _ W).alloc (Nat.le_refl _) _) (by omega) (by omega)).trans (Kept.grown hgrow (by simp; omega) (by simp; omega) (fun k hk => ?_))).trans (Kept.setCell (by omega) (by omega))
      cases hk
      omega
    · have e : (pre ++ [x]).length = pre.length + 1 := by simp
      have e2 : intsV (pre ++ [x]) = intsV pre ++ [.int .i64 (x : Nat)] := by simp [intsV]
      rw [e, e2]
      refine ownsRow_set hown' (fun k hk => ?_) _
      cases hk
      simp only
      omega
    · exact ((hb.alloc (by omega) _).grown hgrow (by simp; omega) (fun k hk => by cases hk; omega)).setCell (by simp; omega) _
  case done =>
    rintro W ⟨⟨v, hv, hrow, n, rfl⟩, hb⟩ hK
    obtain rfl : n = (idsTo M 128).length := by
      obtain ⟨a1, c1, e1, _⟩ := ownsRow_form hrow
      cases e1
      rfl
    rw [hlen] at hv hrow
    have hcv := hv.cell
    gi_wp2
    refine ⟨by simp, .inl ⟨_, _, rfl, run_takeDeferred hK, ?_⟩⟩
    refine ⟨.slice (some ⟨w1.heap.size, 0, none⟩) C C, by simp [results, Tryd.results5, go_sem], _, rfl, ?_, below_taken _ hb (by omega)⟩
    exact ownsRow_putObj hrow _ hK rfl
  case stop =>
    rintro c pre W _ h _
    exact h.elim
end Go.Proofs.YtoplegfibdmjeaaDoor
