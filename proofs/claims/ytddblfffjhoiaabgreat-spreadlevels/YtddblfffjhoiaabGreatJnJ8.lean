/- A row that is put into the middle of a block. -/
import Derived.Test.YtddblfffjhoiaabGreatJnJ2
import Derived.Laws.CopyRow
import Derived.Laws.CopyOwn
import Derived.Test.YtddblfffjhoiaabGreatJnJ7
import Derived.ArgAppend
import Derived.Test.YtddblfffjhoiaabGreatJnJ6
namespace Go.Proofs.YtddblfffjhoiaabGreat
open Go.RowKit Go.Shelf Go.Lib
theorem run_store_in {P : Program} (w : World) (g o : Nat) (t ty : TypeId) (cur vs : List Value) (hg : w.heap[g]? = some (.cells cur.toArray t (0, 0))) (hi : (P.info? ty).map (·.size) = some vs.length) (hf : o + vs.length ≤ cur.length) (h1 : ∀ v ∈ vs, v.oneCell' = true) :
    (Instr.storeAt ty (.pointer (some ⟨g, o, none⟩)) (.agg vs.toArray)).run P w = .ok () (w.setRow g (splice cur o vs).toArray) := by
  have := run_storeCells_at P g o t vs 0 cur.toArray w hg (by simpa using hf) h1
  cases hq : P.info? ty with
  | none => simp [hq] at hi
  | some i =>
    have hs : vs.length = i.size := by simp [hq] at hi; omega
    simp only [Nat.add_zero] at this
    simp [Instr.storeAt, Instr.sureAddr, storeVar, sizeOf, typeInfo, hq, Value.cells, hs, this, splice]
theorem wpList_store_in {P : Program} {ops : Array Oper} {rest : List Oper} {o : Oper} {a : Act} {w : World} {Q : Exit → Act → World → Prop} (hgd : o.guard = none) (ty : TypeId) (x y : Operand) (ho : o.op = .store ty x y)
    (g off : Nat) (t : TypeId) (cur vs : List Value) (hx : a.eval x = .pointer (some ⟨g, off, none⟩)) (hy : a.eval y = .agg vs.toArray) (hg : w.heap[g]? = some (.cells cur.toArray t (0, 0))) (hi : (P.info? ty).map (·.size) = some vs.length) (hf : off + vs.length ≤ cur.length) (h1 : ∀ v ∈ vs, v.oneCell' = true)
    (h : wpList P ops Q rest (a.put o.dst undef) (w.setRow g (splice cur off vs).toArray)) : wpList P ops Q (o :: rest) a w :=
  wpList_plain hgd fun K hK => by
    unfold Oper.wp execOp
    simp only [ho, hx, hy, Sem.run_bind, run_store_in w g off t ty cur vs hg hi hf h1, Result.andThen_ok]
    exact hK _ _ h
theorem row_free {W : World} {base n q : Nat} {v : Value} {xs : List Value} {cur : Array Value} {t : TypeId} {fz : Nat × Nat} (h : W.ownsRow base 26 1 v n xs) (ho : W.heap[q]? = some (.cells cur t fz)) (ht : t ≠ 26) : v.ownBlock ≠ some q := fun e => by
  obtain ⟨_, c, h2⟩ := ownsRow_block h q e
  have := h2.symm.trans ho
  simp only [Option.some.injEq, Obj.cells.injEq] at this
  exact ht this.2.1.symm
end Go.Proofs.YtddblfffjhoiaabGreat
namespace Go.Proofs.YtddblfffjhoiaabGreat
open Go.RowKit Go.Shelf Go.Lib

theorem fl_take (l : List N3) (j : Nat) : (fl l).take (j * 3) = fl (l.take j) := by
  have h : fl l = fl (l.take j) ++ fl (l.drop j) := by rw [← fl_append, List.take_append_drop]
  by_cases hj : j ≤ l.length
  · rw [h, List.take_append_of_le_length (by rw [fl_len, List.length_take]; omega), List.take_of_length_le (by rw [fl_len, List.length_take]; omega)]
  · rw [List.take_of_length_le (by rw [fl_len]; omega), List.take_of_length_le (by omega)]
theorem fl_drop (l : List N3) (j : Nat) : (fl l).drop (j * 3) = fl (l.drop j) := by
  have h : fl l = fl (l.take j) ++ fl (l.drop j) := by rw [← fl_append, List.take_append_drop]
  by_cases hj : j ≤ l.length
  · rw [h, List.drop_append, List.drop_of_length_le (by rw [fl_len, List.length_take]; omega), List.nil_append, fl_len, List.length_take, show j * 3 - min j l.length * 3 = 0 by omega, List.drop_zero]
  · rw [List.drop_of_length_le (by rw [fl_len]; omega), List.drop_of_length_le (by omega)]
    rfl
theorem fl_setN (l : List N3) (j : Nat) (x : N3) (hj : j < l.length) : fl (l.set j x) = (fl l).take (j * 3) ++ ([.int .i64 x.1, .int .i64 x.2.1, .int .i64 x.2.2] ++ (fl l).drop (j * 3 + 3)) := by
  rw [fl_take, show j * 3 + 3 = (j + 1) * 3 by omega, fl_drop, List.set_eq_take_append_cons_drop, if_pos hj, fl_append, fl_cons]
  rfl
/-- A list that is one's own, one of its notices put. -/
theorem row_putN {W : World} {base g n cap : Nat} {l : List N3} (h : W.ownsRow base 61 3 (.slice (some ⟨g, 0, none⟩) n cap) n (fl l)) (hn : n = l.length) {j : Nat} (hj : j < n) (x : N3) :
    ∃ V, (Instr.storeAt 61 (.pointer (some ⟨g, 0 + j * 3, none⟩)) (nt x.1 x.2.1 x.2.2)).run Tryz.prog W = .ok () V ∧ V.ownsRow base 61 3 (.slice (some ⟨g, 0, none⟩) n cap) n (fl (l.set j x)) ∧ W.grownBy V (some g) := by
  subst hn
  obtain ⟨h1, h2⟩ := h
  rcases h2 with ⟨e, _⟩ | ⟨g', cap', cur, e, hb, hc, h4, h5, h6, h7⟩
  · cases e
  cases e
  have hi : (Tryz.prog.info? 61).map (·.size) = some 3 := by kernel_rfl
  have hsz : (j + 1) * 3 ≤ cap * 3 := by omega
  have hs := run_store_in (P := Tryz.prog) W g (0 + j * 3) 61 61 cur.toList [.int .i64 x.1, .int .i64 x.2.1, .int .i64 x.2.2] (by simpa using hc) hi (by simp; omega) (by simp [Value.oneCell'])
  refine ⟨_, hs, ⟨by rw [fl_len, List.length_set], .inr ⟨g, cap, _, rfl, hb, setRow_heap _ _ _ _ _ _ hc, by simpa using h4, h5, ?_, ?_⟩⟩, ⟨rfl, rfl, rfl, by simp [World.setRow], fun k _ hk => setRow_other (fun e => hk (by rw [e]))⟩⟩
  · simp [splice]
    omega
  · have e1 : (fl l).length = l.length * 3 := fl_len l
    obtain ⟨R, hR⟩ : ∃ R, cur.toList.drop (l.length * 3) = R := ⟨_, rfl⟩
    have e2 : cur.toList = fl l ++ R := by rw [← h7, ← hR, List.take_append_drop]
    have e3 : (0 + j * 3) = j * 3 := by omega
    rw [e3]
    unfold splice
    rw [fl_setN l j x hj]
    have l1 : (cur.toList.take (j * 3)) = (fl l).take (j * 3) := by rw [e2, List.take_append_of_le_length (by omega)]
    have l2 : cur.toList.drop (j * 3 + 3) = (fl l).drop (j * 3 + 3) ++ R := by rw [e2, List.drop_append, e1, show j * 3 + 3 - l.length * 3 = 0 by omega, List.drop_zero]
    simp only [List.length_cons, List.length_nil]
    rw [show j * 3 + (0 + 1 + 1 + 1) = j * 3 + 3 by omega, l1, l2]
    simp only [← List.append_assoc]
    rw [List.take_append_of_le_length (by simp; omega), List.take_of_length_le (by simp; omega)]
section
variable {base bb : Nat} {W V : World} {u v : Value} {x : List Value} {L : List (List N3)}
/-- One list turns, in its own block. -/
theorem Kn.turn (h : Kn base bb W u v x L) {i g : Nat} {l l' : List N3} {z : Value} (hl : L[i]? = some l) (hz : x[i]? = some z) (hzg : z.ownBlock = some g) (hV : V.ownsRow base 61 3 z l'.length (fl l')) (hlen : l'.length = l.length) (hg : W.grownBy V (some g)) : Kn base bb V u v x (L.set i l') := by
  obtain ⟨z0, k1, k2, k3⟩ := h.ks i l hl
  rw [hz] at k1
  obtain rfl := Option.some.inj k1
  obtain ⟨_, cur, hgc⟩ := ownsRow_block k2 g hzg
  have hbb : bb ≠ g := fun e => by
    have := h.kb
    unfold KB at this
    rw [e, hgc] at this
    simp only [Option.some.injEq, Obj.cells.injEq] at this
    exact absurd this.2.1 (by decide)
  refine ⟨(hg.block _ (lt_at h.kb) (by simpa using hbb)).trans h.kb, by rw [List.length_set]; exact row_apart2 h.row hg (fun b e => by obtain rfl := Option.some.inj e; exact row_free h.row hgc (by decide)), fun i' l2 hl2 => ?_, h.ap, h.bb, by rw [List.length_set]; exact h.k⟩
  by_cases e : i = i'
  · subst e
    rw [List.getElem?_set_self (List.getElem?_eq_some_iff.1 hl).1] at hl2
    obtain rfl := Option.some.inj hl2
    exact ⟨z, hz, hV, by omega⟩
  · rw [List.getElem?_set_ne e] at hl2
    obtain ⟨z', q1, q2, q3⟩ := h.ks i' l2 hl2
    exact ⟨z', q1, row_apart2 q2 hg (fun b e2 e3 => by
      obtain rfl := Option.some.inj e2
      exact e (h.ap i i' g z z' hz q1 hzg e3)), q3⟩
/-- A young block turns. -/
theorem Kn.young (h : Kn base bb W u v x L) {b : Nat} (hb : ∀ q, q < b → q < V.heap.size → q < W.heap.size → V.heap[q]? = W.heap[q]?) (hs : W.heap.size ≤ b) (hz : W.heap.size ≤ V.heap.size) : Kn base bb V u v x L := by
  have key : ∀ q, q < W.heap.size → V.heap[q]? = W.heap[q]? := fun q hq => hb q (by omega) (by omega) hq
  have rows : ∀ {e : TypeId} {s n : Nat} {z : Value} {ys : List Value}, W.ownsRow base e s z n ys → V.ownsRow base e s z n ys := fun hr => by
    obtain ⟨h1, h2⟩ := hr
    refine ⟨h1, ?_⟩
    rcases h2 with h2 | ⟨g, cap, cur, h3, h4, h5, h6⟩
    · exact .inl h2
    · exact .inr ⟨g, cap, cur, h3, h4, (key g (lt_at h5)).trans h5, h6⟩
  exact ⟨(key _ (lt_at h.kb)).trans h.kb, rows h.row, fun i l hl => by
    obtain ⟨z, q1, q2, q3⟩ := h.ks i l hl
    exact ⟨z, q1, rows q2, q3⟩, h.ap, h.bb, h.k⟩
theorem set_sameN {α : Type} {L : List α} {k : Nat} {l : α} (h : L[k]? = some l) : L.set k l = L := by
  refine List.ext_getElem? fun j => ?_
  by_cases e : k = j
  · subst e
    rw [List.getElem?_set_self (List.getElem?_eq_some_iff.1 h).1, h]
  · rw [List.getElem?_set_ne e]
theorem take_putN {m l : List N3} {j : Nat} {y : N3} (hj : m[j]? = some y) (hl : l.length = m.length) : (m.take j ++ l.drop j).set j y = m.take (j + 1) ++ l.drop (j + 1) := by
  obtain ⟨hlt, rfl⟩ := List.getElem?_eq_some_iff.1 hj
  have e1 : (m.take j).length = j := by rw [List.length_take]; omega
  rw [List.set_append_right _ _ (by omega), e1, Nat.sub_self, List.drop_eq_getElem_cons (by omega), List.set_cons_zero, ← List.take_append_getElem hlt, List.append_assoc]
  rfl
end
/-- Marked up to k. -/
def upN (L L' : List (List N3)) (k : Nat) : Prop := L'.length = L.length ∧ ∀ (j : Nat) (l : List N3), L[j]? = some l → L'[j]? = some (if j < k then mkM j 0 l.length else l)
theorem upN.zero (L : List (List N3)) : upN L L 0 := ⟨rfl, fun j l hl => by rw [if_neg (by omega)]; exact hl⟩
theorem upN.succ {L L' : List (List N3)} {k : Nat} (h : upN L L' k) {l : List N3} (hl : L[k]? = some l) : upN L (L'.set k (mkM k 0 l.length)) (k + 1) := by
  refine ⟨by rw [List.length_set]; exact h.1, fun j l' hl' => ?_⟩
  by_cases e : k = j
  · subst e
    rw [hl] at hl'
    cases hl'
    rw [List.getElem?_set_self (by rw [h.1]; exact (List.getElem?_eq_some_iff.1 hl).1), if_pos (by omega)]
  · rw [List.getElem?_set_ne e, h.2 j l' hl']
    by_cases q : j < k
    · rw [if_pos q, if_pos (by omega)]
    · rw [if_neg q, if_neg (by omega)]
set_option maxHeartbeats 8000000 in
set_option maxRecDepth 100000 in
theorem putn_any {base bb : Nat} {w : World} {u v : Value} {x : List Value} {L : List (List N3)} (h : Kn base bb w u v x L) (hbz : base ≤ w.heap.size) : Calls Tryz.prog 38 #[.pointer (some ⟨bb, 0, none⟩)] w fun e w' => e = .returned (.tuple #[]) ∧ (∃ L', Kn base bb w' u v x L' ∧ upN L L' L.length) ∧ Below base w w' := by
  have hmx : Tryz.prog.follows .mixedOrders = true := by kernel_rfl
  obtain ⟨au, cu, eu, _⟩ := ownsRow_form h.row
  subst eu
  have hk4 := h.k
  have m6 : ∀ (V : World) (L' : List (List N3)), Kn base bb V (.slice au L.length cu) v x L' → V.cell? ⟨bb, 6, none⟩ = some (.slice au L.length cu) := fun V L' hV => by
    rw [cell_at hV.kb]
    rfl
  go_enter Tryz.func38, Tryz.ntmps38
  go_wp2
  go_loopw [2] (fun i wz => ∃ (k : Nat) (L' : List (List N3)), i = .int .i64 (k : Int) ∧ k ≤ L.length ∧ Kn base bb wz (.slice au L.length cu) v x L' ∧ upN L L' k ∧ Below base w wz) (fun i _ => L.length - vnatR i)
  case atStart => exact ⟨0, L, rfl, Nat.zero_le _, h, upN.zero L, Below.refl _ _⟩
  case round =>
    obtain ⟨k, L', rfl, hk, hK', hup, hbw⟩ := hrel
    have mm := m6 _ _ hK'
    by_cases hkl : k < L.length
    case neg =>
      have hki : ¬ (k : Int) < (L.length : Int) := by omega
      obtain rfl : k = L.length := by omega
      go_wp2
      go_end0
      exact ⟨rfl, ⟨L', hK', hup⟩, hbw⟩
    have hki : (k : Int) < (L.length : Int) := by omega
    obtain ⟨l, hl⟩ : ∃ l, L[k]? = some l := ⟨_, List.getElem?_eq_getElem hkl⟩
    have hl' : L'[k]? = some l := by rw [hup.2 k l hl, if_neg (by omega)]
    obtain ⟨gu, cu', z, e1, c1, hxz, hfl, hln⟩ := hK'.cell hl'
    simp only [Value.slice.injEq] at e1
    obtain ⟨rfl, _, rfl⟩ := e1
    obtain ⟨adx, cx, rfl, hrx⟩ := own_rd hfl
    have hmk := markn_any k 0 l.length (by omega) (by omega) (by omega) wr
    have hgx : ∀ g, (Value.slice adx l.length cx).ownBlock = some g → g < wr.heap.size ∧ base ≤ g := fun g e => (row_lt2 hfl g e).symm
    obtain ⟨sz, hsz⟩ : ∃ sz, wr.heap.size = sz := ⟨_, rfl⟩
    rw [hsz] at hgx hmk
    have HSZ : Hid (wr.heap.size = sz) := hsz
    clear hsz
    have HLK : Hid (L[k]? = some l) := hl
    have HLK' : Hid (L'[k]? = some l) := hl'
    have HXZ : Hid (x[k]? = some (.slice adx l.length cx)) := hxz
    have HUP : Hid (upN L L' k) := hup
    clear hl hl' hxz hup
    have hmk : Calls Tryz.prog 108 #[.int .i64 (k : Int), .int .i64 0, .int .i64 (l.length : Int)] wr (fun e w' => ∃ v, e = .returned v ∧ w'.ownsRow sz 61 3 v l.length (fl (mkM k 0 l.length)) ∧ Below sz wr w') := hmk
    go_wp2_with (go_at_call 108; (with_reducible refine hmk.mono ?_); rintro e va ⟨vm, rfl, hro, hba⟩; obtain ⟨am, cm, em, _⟩ := ownsRow_form hro; subst em; have hba' : Below wr.heap.size wr va := (by rw [HSZ.out]; exact hba); have hKa := hK'.carry hba'; have hBa := hbw.trans (hba'.mono (Nat.le_trans hbz hbw.size)))
    go_loopw [4] (fun i wz => ∃ j : Nat, i = .int .i64 (j : Int) ∧ j ≤ l.length ∧ Kn base bb wz (.slice (some ⟨gu, 0, none⟩) L.length cu) v x (L'.set k ((mkM k 0 l.length).take j ++ l.drop j)) ∧ wz.ownsRow sz 61 3 (.slice am l.length cm) l.length (fl (mkM k 0 l.length)) ∧ Below base w wz) (fun i _ => l.length - vnatR i)
    case atStart => exact ⟨0, rfl, Nat.zero_le _, by rw [List.take_zero, List.nil_append, List.drop_zero, set_sameN HLK'.out]; exact hKa, hro, hBa⟩
    case round =>
      obtain ⟨j, rfl, hj, hKj, hrj, hBj⟩ := hrel
      by_cases hjl : j < l.length
      case neg =>
        have hji : ¬ (j : Int) < (l.length : Int) := by omega
        obtain rfl : j = l.length := by omega
        have hfin : (mkM k 0 l.length).take l.length ++ l.drop l.length = mkM k 0 l.length := by rw [List.take_of_length_le (by rw [mkM_len]; omega), List.drop_length, List.append_nil]
        rw [hfin] at hKj
        go_wp2
        go_roundw
        case rel => exact ⟨k + 1, _, by simp, by omega, hKj, HUP.out.succ HLK.out, hBj⟩
        case measure => simp [vnatR]; omega
      have hji : (j : Int) < (l.length : Int) := by omega
      have hy := mkM_get k l.length j hjl
      rcases own_form hrj with ⟨_, e⟩ | ⟨gm, cm', em, hgm, hgm2, _⟩
      · omega
      simp only [Value.slice.injEq] at em
      obtain ⟨rfl, _, rfl⟩ := em
      have hll : ((mkM k 0 l.length).take j ++ l.drop j).length = l.length := by rw [List.length_append, List.length_take, mkM_len, List.length_drop]; omega
      have hcl : (L'.set k ((mkM k 0 l.length).take j ++ l.drop j))[k]? = some ((mkM k 0 l.length).take j ++ l.drop j) := List.getElem?_set_self (List.getElem?_eq_some_iff.1 HLK'.out).1
      have hst : ((mkM k 0 l.length).take j ++ l.drop j).set j (-1 - (k : Int), (j : Int), 0) = (mkM k 0 l.length).take (j + 1) ++ l.drop (j + 1) := take_putN hy (mkM_len k 0 l.length).symm
      rcases own_form hfl with ⟨_, e⟩ | ⟨g, cg, ez, _⟩
      · omega
      simp only [Value.slice.injEq] at ez
      obtain ⟨rfl, _, rfl⟩ := ez
      obtain ⟨hglt, hgb⟩ := hgx g rfl
      have hgmg : gm ≠ g := by omega
      have HY : Hid ((mkM k 0 l.length)[j]? = some (-1 - (k : Int), (j : Int), 0)) := hy
      clear hy
      have mj := m6 _ _ hKj
      have hspot : ∀ V, Kn base bb V (.slice (some ⟨gu, 0, none⟩) L.length cu) v x (L'.set k ((mkM k 0 l.length).take j ++ l.drop j)) → V.cell? ⟨gu, k, none⟩ = some (.slice (some ⟨g, 0, none⟩) l.length cx) := fun V hV => by
        obtain ⟨gu2, cu2, z2, q1, q2, q3, _⟩ := hV.cell hcl
        simp only [Value.slice.injEq, Option.some.injEq, Addr.mk.injEq] at q1
        obtain ⟨⟨rfl, _⟩, _⟩ := q1
        rw [HXZ.out] at q3
        obtain rfl := Option.some.inj q3
        exact q2
      go_wp2
      rename_i hK
      refine wp_region_any hmx ?_
      refine wpAny_last 13 (fun i__ => ([(.pointer (some ⟨bb, 0, none⟩)), (.pointer (some ⟨bb, 0, none⟩)), (.pointer (some ⟨bb, 6, none⟩)), (.slice (some ⟨gu, 0, none⟩) L.length cu), (.int .i64 (k : Int)), (.pointer (some ⟨gu, k, none⟩)), (.slice (some ⟨g, 0, none⟩) l.length cx), (.int .i64 (j : Int)), (.slice (some ⟨gm, 0, none⟩) l.length cm), (.int .i64 (j : Int)), (.pointer (some ⟨gm, 0 + j * 3, none⟩)), (nt (-1 - (k : Int)) (j : Int) 0), (.pointer (some ⟨g, 0 + j * 3, none⟩)), undef] : List Value).getD i__ undef) (fun V => Kn base bb V (.slice (some ⟨gu, 0, none⟩) L.length cu) v x (L'.set k ((mkM k 0 l.length).take j ++ l.drop j)) ∧ V.ownsRow sz 61 3 (.slice (some ⟨gm, 0, none⟩) l.length cm) l.length (fl (mkM k 0 l.length)) ∧ Below base w V) (fun V => Kn base bb V (.slice (some ⟨gu, 0, none⟩) L.length cu) v x (L'.set k ((mkM k 0 l.length).take (j + 1) ++ l.drop (j + 1))) ∧ V.ownsRow sz 61 3 (.slice (some ⟨gm, 0, none⟩) l.length cm) l.length (fl (mkM k 0 l.length)) ∧ Below base w V) rfl (by kernel_rfl) (by kernel_rfl) (⟨hKj.carry (Below.refl _ _).drew, row_below hrj (Below.refl _ _).drew, hBj.drew⟩) ?_ ?_  ?_
      · refine (stepsFrom_cons ?_ (stepsFrom_cons ?_ (stepsFrom_cons ?_ (stepsFrom_cons ?_ (stepsFrom_cons ?_ (stepsFrom_cons ?_ (stepsFrom_cons ?_ (stepsFrom_cons ?_ (stepsFrom_cons ?_ (stepsFrom_cons ?_ (stepsFrom_cons ?_ (stepsFrom_cons ?_ (stepsFrom_cons ?_ trivial)))))))))))))
        · exact step_move rfl trivial _ rfl (by kernel_rfl)
        · exact step_nilCheck rfl trivial _ _ _ rfl rfl rfl
        · exact step_fieldAddr rfl trivial _ _ _ _ rfl rfl (fun v hw => field_b6 v _)
        · exact step_load rfl trivial _ _ _ rfl rfl (fun v hw => load_nn (m6 _ _ hw.1))
        · exact step_move rfl trivial _ rfl (by kernel_rfl)
        · exact step_indexAddr rfl trivial _ _ _ _ _ rfl rfl rfl (fun v hw => idx_nn gu _ _ k hkl v)
        · exact step_load rfl trivial _ _ _ rfl rfl (fun v hw => load_nl (hspot _ hw.1))
        · exact step_move rfl trivial _ rfl (by kernel_rfl)
        · exact step_move rfl trivial _ rfl (by kernel_rfl)
        · exact step_move rfl trivial _ rfl (by kernel_rfl)
        · exact step_indexAddr rfl trivial _ _ _ _ _ rfl rfl rfl (fun v hw => idx_n gm 0 l.length cm j hjl v)
        · exact step_load rfl trivial _ _ _ rfl rfl (fun v hw => load_at (nts_own hw.2.1 (mkM_len k 0 l.length).symm) HY.out)
        · exact step_indexAddr rfl trivial _ _ _ _ _ rfl rfl rfl (fun v hw => idx_n g 0 l.length cx j hjl v)
      · intro o ho
        cases ho
        exact step_store rfl trivial rfl _ _ _ _ _ rfl rfl rfl (fun V hw => by obtain ⟨z2, q1, q2, _⟩ := hw.1.ks k _ hcl; rw [HXZ.out] at q1; obtain rfl := Option.some.inj q1; rw [hll] at q2; obtain ⟨V', r1, r2, r3⟩ := row_putN q2 hll.symm hjl (-1 - (k : Int), (j : Int), 0); refine ⟨V', r1, ?_, row_apart2 hw.2.1 r3 (fun b e e2 => by obtain rfl := Option.some.inj e; simp only [Value.ownBlock, Option.some.injEq] at e2; exact hgmg e2), hw.2.2.grown r3 (by have := hw.2.2.size; omega) (fun q e => by obtain rfl := Option.some.inj e; exact hgb)⟩; have hk9 := hw.1.turn hcl HXZ.out rfl (by rw [List.length_set, hll]; exact r2) (List.length_set ..) r3; rw [List.set_set, hst] at hk9; exact hk9)
      intro W hW
      first | refine hK _ _ ?_ | refine (‹∀ (a : Act) (w : World), Code.wp Tryz.prog _ _ a w → _›) _ _ ?_
      simp only [finL, List.getD_cons_zero, List.getD_cons_succ, Nat.zero_add, Nat.reduceAdd, List.setIfInBounds_toArray, List.set_cons_zero, List.set_cons_succ]
      clear hK
      go_wp2
      go_roundw
      case rel => exact ⟨j + 1, by simp, by omega, hW.1, hW.2.1, hW.2.2⟩
      case measure => simp [vnatR]; omega
end Go.Proofs.YtddblfffjhoiaabGreat
namespace Go.Proofs.YtddblfffjhoiaabGreat
open Go.RowKit Go.Shelf Go.Lib

/-- An own row, cut. -/
theorem own_prefix {W : World} {base g n cap N size : Nat} {e : TypeId} {xs : List Value} (h : W.ownsRow base e size (.slice (some ⟨g, 0, none⟩) n cap) n xs) (hN : N ≤ n) : W.ownsRow base e size (.slice (some ⟨g, 0, none⟩) N cap) N (xs.take (N * size)) := by
  obtain ⟨h1, h2⟩ := h
  have hle : N * size ≤ n * size := Nat.mul_le_mul_right _ hN
  rcases h2 with ⟨q, _⟩ | ⟨g', cap', cur, q, hb, hc, h4, h5, h6, h7⟩
  · cases q
  cases q
  refine ⟨by rw [List.length_take]; omega, .inr ⟨g, cap, cur, rfl, hb, hc, by omega, h5, h6, ?_⟩⟩
  rw [← h7, List.take_take, Nat.min_eq_left hle]
/-- append to an own row: in place, or into new memory. -/
theorem wpList_append_two {P : Program} (w : World) {ops : Array Oper} {rest : List Oper} {o : Oper} {a : Act} {Q : Exit → Act → World → Prop}
    (hg : o.guard = none) (s x : Operand) (t : TypeId) (hop : o.op = Op.call { callee := Callee.builtin Builtin.append, args := #[s, x], argTypes := #[t, t] })
    (base : Nat) (e : TypeId) (i : TypeInfo) (z : Value) (size bytes : Nat) (h1 : P.underlying t = some (.slice e)) (h2 : P.info? e = some i) (h3 : i.zero = some z) (h4 : i.size = size) (h5 : i.bytes = bytes) (h6 : z.cells.size = size) (h7 : 0 < size)
    (v : Value) (n : Nat) (xs : List Value) (hs : a.eval s = v) (hown : w.ownsRow base e size v n xs)
    (ad : Addr) (m c : Nat) (news : List Value) (hx : a.eval x = .slice (some ad) m c) (hn : news.length = m * size) (hc : ∀ j u, news[j]? = some u → w.cell? (ad.add j) = some u) (h1c : ∀ u ∈ news, u.oneCell' = true)
    (hm0 : 0 < m) (b1 : n + m ≤ maxLen) (b2 : (n + m) * bytes ≤ 140737488355328) (hbase : base ≤ w.heap.size)
    (hK : ∀ v' w', w'.ownsRow base e size v' (n + m) (xs ++ news) → ((∃ g cap, v = .slice (some ⟨g, 0, none⟩) n cap ∧ v' = .slice (some ⟨g, 0, none⟩) (n + m) cap ∧ w.grownBy w' (some g)) ∨ (w'.ownsRow w.heap.size e size v' (n + m) (xs ++ news) ∧ w.grownBy w' none)) → wpList P ops Q rest (a.put o.dst v') w') :
    wpList P ops Q (o :: rest) a w := by
  obtain ⟨l1, l2⟩ := hown
  have hfin : ∀ v' w', w'.ownsRow w.heap.size e size v' (n + m) (xs ++ news) → w.grownBy w' none → wpList P ops Q rest (a.put o.dst v') w' := fun v' w' q1 q2 => hK v' w' (row_base q1 hbase) (.inr ⟨q1, q2⟩)
  rcases l2 with ⟨rfl, rfl⟩ | ⟨g, cap, cur, rfl, hb, hgc, hnc, hcm, hsz, htk⟩
  · exact wpList_append_grows w hg s x t hop e i z size bytes h1 h2 h3 h4 h5 h6 h7 none 0 0 xs hs (fun _ => ⟨rfl, rfl⟩) l1 (fun b hb => by cases hb) ad m c news hx hn hc h1c (by omega) b1 b2 hfin
  by_cases hr : n + m ≤ cap
  case neg =>
    refine wpList_append_grows w hg s x t hop e i z size bytes h1 h2 h3 h4 h5 h6 h7 (some ⟨g, 0, none⟩) n cap xs hs (fun q => by cases q) l1 (fun b hb j u hj => ?_) ad m c news hx hn hc h1c (by omega) b1 b2 hfin
    obtain rfl := Option.some.inj hb
    rw [add_pl, Nat.zero_add, cell_at hgc, ← Array.getElem?_toList]
    rw [← htk] at hj
    rw [List.getElem?_take] at hj
    split at hj
    · exact hj
    · cases hj
  · subst h4
    have hm1 : (n + m) * i.size ≤ cap * i.size := Nat.mul_le_mul_right _ hr
    have hm2 : (n + m) * i.size = n * i.size + m * i.size := Nat.add_mul _ _ _
    have hrun := run_append_room (P := P) w t o.type e i h1 h2 g n cap cur hgc ad m c news hn hc h1c hr (by omega)
    refine wpList_plain hg fun K hK' => ?_
    unfold Oper.wp
    simp [execOp, hop, resolve, invoke, builtin, hs, hx, hrun, Result.andThen]
    refine hK' _ _ (hK _ _ ⟨by rw [List.length_append]; omega, .inr ⟨g, cap, _, rfl, hb, setRow_heap _ _ _ _ _ _ hgc, hr, hcm, ?_, ?_⟩⟩ (.inl ⟨g, cap, rfl, rfl, ⟨rfl, rfl, rfl, by simp [World.setRow], fun k _ hk => setRow_other (fun e => hk (by rw [e]))⟩⟩))
    · simp
      omega
    · have e1 : xs.length = n * i.size := l1
      rw [htk, ← List.append_assoc, List.take_append_of_le_length (by rw [List.length_append]; omega), List.take_of_length_le (by rw [List.length_append]; omega)]
section
variable {base bb : Nat} {W V : World} {u v : Value} {x : List Value} {L : List (List N3)}
theorem Kn.off (h : Kn base bb W u v x L) {ob : Option Nat} (hg : W.grownBy V ob) (hbb : ob ≠ some bb) (hu : ∀ b, ob = some b → u.ownBlock ≠ some b) (hx : ∀ b, ob = some b → ∀ (i : Nat) (z : Value), x[i]? = some z → z.ownBlock ≠ some b) : Kn base bb V u v x L :=
  ⟨(hg.block _ (lt_at h.kb) (fun e => hbb e.symm)).trans h.kb, row_apart2 h.row hg hu, fun i l hl => by
    obtain ⟨z, q1, q2, q3⟩ := h.ks i l hl
    exact ⟨z, q1, row_apart2 q2 hg (fun b e => hx b e i z q1), q3⟩, h.ap, h.bb, h.k⟩
/-- The lists that were grown. -/
def Gkn (base s0 : Nat) (x : List Value) (W : World) (O : List Value) : Prop := ∀ (i : Nat) (z' : Value), O[i]? = some z' → ∃ n, W.ownsRow base 61 3 z' n (fl (mkM i 0 n)) ∧ n ≤ 5000 ∧ ((∃ z, x[i]? = some z ∧ z'.ownBlock = z.ownBlock) ∨ ∀ b, z'.ownBlock = some b → s0 ≤ b)
theorem Gkn.mkn {s0 : Nat} {O : List Value} (h : Gkn base s0 x W O) : Mkn W O := fun i z hz => by
  obtain ⟨n, h1, h2, _⟩ := h i z hz
  obtain ⟨ad, c, e, hr⟩ := own_rdm h1
  exact ⟨ad, n, c, e, hr, h2⟩
theorem Gkn.off {s0 : Nat} {O : List Value} (h : Gkn base s0 x W O) {ob : Option Nat} (hg : W.grownBy V ob) (hO : ∀ b, ob = some b → ∀ (i : Nat) (z : Value), O[i]? = some z → z.ownBlock ≠ some b) : Gkn base s0 x V O := fun i z hz => by
  obtain ⟨n, h1, h2, h3⟩ := h i z hz
  exact ⟨n, row_apart2 h1 hg (fun b e => hO b e i z hz), h2, h3⟩
/-- While one list is grown. -/
structure Gs (base bb s0 sz N k : Nat) (u v z uo : Value) (x O : List Value) (L : List (List N3)) (w W : World) (a : Value) (M : Nat) : Prop where
  row : W.ownsRow base 61 3 a M (fl (mkM k 0 M))
  rel : (∃ g cap, z = .slice (some ⟨g, 0, none⟩) N cap ∧ a = .slice (some ⟨g, 0, none⟩) M cap) ∨ a = .slice none 0 0 ∨ W.ownsRow sz 61 3 a M (fl (mkM k 0 M))
  kn : Kn base bb W u v x L
  gk : Gkn base s0 x W O
  ro : W.ownsRow s0 26 1 uo k O
  bl : Below base w W
  sz : sz ≤ W.heap.size
  nm : N ≤ M
/-- What stays the same meanwhile. -/
structure Gc (base bb s0 sz N k : Nat) (u z uo : Value) (x O : List Value) (L : List (List N3)) : Prop where
  lk : L[k]? = some (mkM k 0 N)
  xk : x[k]? = some z
  b0 : base ≤ s0
  le : s0 ≤ sz
  xl : ∀ (i : Nat) (z' : Value) (b : Nat), x[i]? = some z' → z'.ownBlock = some b → b < s0
  ul : ∀ b, u.ownBlock = some b → b < s0
  bl : bb < s0
  ol : ∀ (i : Nat) (z' : Value) (b : Nat), O[i]? = some z' → z'.ownBlock = some b → b < sz
  oo : ∀ b, uo.ownBlock = some b → b < sz
  ok : O.length = k
theorem Gs.carry {s0 sz N k M : Nat} {z uo a : Value} {O : List Value} {w : World} (h : Gs base bb s0 sz N k u v z uo x O L w W a M) (hb : Below W.heap.size W V) (hbz : base ≤ W.heap.size) : Gs base bb s0 sz N k u v z uo x O L w V a M :=
  ⟨row_below h.row hb, h.rel.imp_right (fun q => q.imp_right (fun q => row_below q hb)), h.kn.carry hb, fun i z hz => by
    obtain ⟨n, h1, h2, h3⟩ := h.gk i z hz
    exact ⟨n, row_below h1 hb, h2, h3⟩, row_below h.ro hb, h.bl.trans (hb.mono hbz), Nat.le_trans h.sz hb.size, h.nm⟩
theorem Gs.app {s0 sz N k M m : Nat} {z uo a v' : Value} {O : List Value} {w : World} (h : Gs base bb s0 sz N k u v z uo x O L w W a M) (hc : Gc base bb s0 sz N k u z uo x O L) (hv : V.ownsRow base 61 3 v' (M + m) (fl (mkM k 0 M) ++ fl (mkM k M m)))
    (h2 : (∃ g cap, a = .slice (some ⟨g, 0, none⟩) M cap ∧ v' = .slice (some ⟨g, 0, none⟩) (M + m) cap ∧ W.grownBy V (some g)) ∨ (V.ownsRow W.heap.size 61 3 v' (M + m) (fl (mkM k 0 M) ++ fl (mkM k M m)) ∧ W.grownBy V none)) : Gs base bb s0 sz N k u v z uo x O L w V v' (M + m) := by
  have hsz := h.sz
  have hc0 := hc.b0
  have hc1 := hc.le
  have e3 := mkM_app k 0 M m
  rw [Nat.zero_add] at e3
  have e4 : fl (mkM k 0 M) ++ fl (mkM k M m) = fl (mkM k 0 (M + m)) := by rw [← fl_append, e3]
  rw [e4] at hv h2
  rcases h2 with ⟨g, cap, rfl, rfl, hg⟩ | ⟨hf, hg⟩
  · obtain ⟨hbg, cur, hgc⟩ := ownsRow_block h.row g rfl
    have hbl : Below base w V := h.bl.grown hg (by omega) (fun q e => by obtain rfl := Option.some.inj e; exact hbg)
    have hro : V.ownsRow s0 26 1 uo k O := row_apart2 h.ro hg (fun b e => by obtain rfl := Option.some.inj e; exact row_free h.ro hgc (by decide))
    rcases h.rel with ⟨g', cap', rfl, q⟩ | q | q
    · simp only [Value.slice.injEq, Option.some.injEq, Addr.mk.injEq] at q
      obtain ⟨⟨rfl, _⟩, _, rfl⟩ := q
      have hg0 : g < s0 := hc.xl k _ g hc.xk rfl
      refine ⟨hv, .inl ⟨g, cap, rfl, rfl⟩, ?_, h.gk.off hg (fun b e i z' hz e2 => ?_), hro, hbl, Nat.le_trans h.sz hg.size, by have := h.nm; omega⟩
      · have hp := own_prefix hv (show N ≤ M + m by have := h.nm; omega)
        rw [fl_take, mkM_take _ _ _ (by have := h.nm; omega)] at hp
        have := h.kn.turn hc.lk hc.xk rfl (l' := mkM k 0 N) (by rw [mkM_len]; exact hp) rfl hg
        rw [set_sameN hc.lk] at this
        exact this
      · obtain rfl := Option.some.inj e
        obtain ⟨n, _, _, h5⟩ := h.gk i z' hz
        have hik : i < k := by rw [← hc.ok]; exact (List.getElem?_eq_some_iff.1 hz).1
        rcases h5 with ⟨zz, h6, h7⟩ | h5
        · have := h.kn.ap i k g zz _ h6 hc.xk (h7.symm.trans e2) rfl
          omega
        · have := h5 g e2
          omega
    · cases q
    · have hgz : sz ≤ g := (ownsRow_block q g rfl).1
      refine ⟨hv, .inr (.inr ?_), h.kn.off hg (fun e => ?_) (fun b e e2 => ?_) (fun b e i z' hz e2 => ?_), h.gk.off hg (fun b e i z' hz e2 => ?_), hro, hbl, Nat.le_trans h.sz hg.size, by have := h.nm; omega⟩
      · obtain ⟨q1, q2⟩ := hv
        refine ⟨q1, .inr ?_⟩
        rcases q2 with ⟨q3, _⟩ | ⟨g9, c9, cur9, q3, q4, q5⟩
        · cases q3
        · cases q3
          exact ⟨g, cap, cur9, rfl, hgz, q5⟩
      · have := hc.bl
        have := Option.some.inj e
        omega
      · obtain rfl := Option.some.inj e
        have := hc.ul _ e2
        omega
      · obtain rfl := Option.some.inj e
        have := hc.xl i z' _ hz e2
        omega
      · obtain rfl := Option.some.inj e
        have := hc.ol i z' _ hz e2
        omega
  · have hb : Below W.heap.size W V := ⟨hg.os, hg.tape, hg.output, hg.size, fun q hq => hg.block q hq (by simp)⟩
    have h9 := h.carry hb (by omega)
    exact ⟨hv, .inr (.inr (row_base hf h.sz)), h9.kn, h9.gk, h9.ro, h9.bl, h9.sz, by have := h.nm; omega⟩
end
set_option maxHeartbeats 8000000 in
set_option maxRecDepth 100000 in
theorem grown_any {base bb : Nat} {w : World} {u v : Value} {x : List Value} {L : List (List N3)} (h : Kn base bb w u v x L) (hm : ∀ (j : Nat) (l : List N3), L[j]? = some l → l = mkM j 0 l.length) (hbz : base ≤ w.heap.size) : Calls Tryz.prog 50 #[.pointer (some ⟨bb, 0, none⟩)] w fun e w' => ∃ uo, e = .returned uo ∧ ∃ O, w'.ownsRow w.heap.size 26 1 uo L.length O ∧ Mkn w' O ∧ Kn base bb w' u v x L ∧ Below base w w' := by
  obtain ⟨ic, hic, hz0, hz1, hz2⟩ := info_partsN
  obtain ⟨is, his, hs0, hs1, hs2⟩ := info_partsS
  obtain ⟨au, cu, eu, _⟩ := ownsRow_form h.row
  subst eu
  have hk4 := h.k
  have hxl : ∀ (i : Nat) (z' : Value) (b : Nat), x[i]? = some z' → z'.ownBlock = some b → b < w.heap.size := fun i z' b hz hb => by
    have hi : i < L.length := by rw [← h.lenx]; exact (List.getElem?_eq_some_iff.1 hz).1
    obtain ⟨z2, q1, q2, _⟩ := h.ks i _ (List.getElem?_eq_getElem hi)
    rw [hz] at q1
    obtain rfl := Option.some.inj q1
    exact (row_lt2 q2 b hb).2
  have hul : ∀ b, (Value.slice au L.length cu).ownBlock = some b → b < w.heap.size := fun b hb => (row_lt2 h.row b hb).2
  have hbl : bb < w.heap.size := lt_at h.kb
  have m6 : ∀ V, Kn base bb V (.slice au L.length cu) v x L → V.cell? ⟨bb, 6, none⟩ = some (.slice au L.length cu) := fun V hV => by
    rw [cell_at hV.kb]
    rfl
  obtain ⟨s0, hs⟩ : ∃ s0, w.heap.size = s0 := ⟨_, rfl⟩
  rw [hs] at hxl hul hbl hbz ⊢
  have hs0w : s0 ≤ w.heap.size := by omega
  clear hs
  go_enter Tryz.func50, Tryz.ntmps50
  go_wp2
  go_loopw [3, 4] (fun o i wz => ∃ (k : Nat) (O : List Value), i = .int .i64 (k : Int) ∧ k ≤ L.length ∧ wz.ownsRow s0 26 1 o k O ∧ Gkn base s0 x wz O ∧ Kn base bb wz (.slice au L.length cu) v x L ∧ Below base w wz ∧ s0 ≤ wz.heap.size) (fun _ i _ => L.length - vnatR i)
  case atStart => exact ⟨0, [], rfl, Nat.zero_le _, World.ownsRow_nil _ _ _ _, fun i z hz => (by cases hz), h, Below.refl _ _, hs0w⟩
  case round =>
    obtain ⟨k, O, rfl, hk, hro, hgk, hK', hbw, hsw⟩ := hrel
    obtain ⟨ao, co, eo, _⟩ := ownsRow_form hro
    subst eo
    have mm := m6 _ hK'
    have hOl : O.length = k := by have := hro.1; omega
    by_cases hkl : k < L.length
    case neg =>
      have hki : ¬ (k : Int) < (L.length : Int) := by omega
      obtain rfl : k = L.length := by omega
      go_wp2
      go_ret
      exact ⟨_, rfl, O, hro, hgk.mkn, hK', hbw⟩
    have hki : (k : Int) < (L.length : Int) := by omega
    obtain ⟨l, hl⟩ : ∃ l, L[k]? = some l := ⟨_, List.getElem?_eq_getElem hkl⟩
    obtain ⟨gu, cu', z, e1, c1, hxz, hfl, hln⟩ := hK'.cell hl
    simp only [Value.slice.injEq] at e1
    obtain ⟨rfl, _, rfl⟩ := e1
    have hml := hm k l hl
    obtain ⟨N, hN⟩ : ∃ N, l.length = N := ⟨_, rfl⟩
    rw [hN] at hml hln hfl
    rw [hml] at hl hfl
    obtain ⟨adx, cx, rfl, _⟩ := own_rdm hfl
    have hrel0 : (∃ g cap, Value.slice adx N cx = .slice (some ⟨g, 0, none⟩) N cap ∧ Value.slice adx N cx = .slice (some ⟨g, 0, none⟩) N cap) ∨ Value.slice adx N cx = .slice none 0 0 ∨ wr.ownsRow wr.heap.size 61 3 (.slice adx N cx) N (fl (mkM k 0 N)) := by
      rcases own_form hfl with ⟨q, _⟩ | ⟨g, cap, q, _⟩
      · exact .inr (.inl q)
      · exact .inl ⟨g, cap, q, q⟩
    have hGs : Gs base bb s0 wr.heap.size N k (.slice (some ⟨gu, 0, none⟩) L.length cu) v (.slice adx N cx) (.slice ao k co) x O L w wr (.slice adx N cx) N := ⟨hfl, hrel0, hK', hgk, hro, hbw, Nat.le_refl _, Nat.le_refl _⟩
    have hGc : Gc base bb s0 wr.heap.size N k (.slice (some ⟨gu, 0, none⟩) L.length cu) (.slice adx N cx) (.slice ao k co) x O L := ⟨hl, hxz, hbz, hsw, hxl, hul, hbl, fun i z' b hz hb => (by
      obtain ⟨n, q1, _⟩ := hgk i z' hz
      exact (row_lt2 q1 b hb).2), fun b hb => (row_lt2 hro b hb).2, hOl⟩
    obtain ⟨sz, hsz⟩ : ∃ sz, wr.heap.size = sz := ⟨_, rfl⟩
    rw [hsz] at hGs hGc
    have hsz2 : s0 ≤ sz := by omega
    clear hrel0 hfl hgk hro hl hml hm hsz hK' hbw hsw
    go_wp2
    clear mm c1
    go_loopw [5, 6] (fun a i wz => ∃ n : Nat, i = .int .i64 (n : Int) ∧ n ≤ 16 ∧ Gs base bb s0 sz N k (.slice (some ⟨gu, 0, none⟩) L.length cu) v (.slice adx N cx) (.slice ao k co) x O L w wz a (N + n)) (fun _ i _ => 16 - vnatR i)
    case atStart => exact ⟨0, rfl, by omega, hGs⟩
    case round =>
      clear hGs
      obtain ⟨n, rfl, hn, hG⟩ := hrel
      obtain ⟨aa, ca, ea, _⟩ := ownsRow_form hG.row
      subst ea
      have hbz2 : base ≤ wr.heap.size := by have := hG.sz; omega
      by_cases hn16 : n < 16
      · have hni : (n : Int) < 16 := by omega
        obtain ⟨M, hM⟩ : ∃ M, N + n = M := ⟨_, rfl⟩
        have HM : Hid (N + n = M) := hM
        rw [hM] at hG ⊢
        have hM2 : M ≤ 2000 := by omega
        clear hM
        have hmk := markn_any k M 1 (by omega) (by omega) (by omega) wr
        have hmk : Calls Tryz.prog 108 #[.int .i64 (k : Int), .int .i64 (M : Int), .int .i64 1] wr (fun e w' => ∃ v, e = .returned v ∧ w'.ownsRow wr.heap.size 61 3 v 1 (fl (mkM k M 1)) ∧ Below wr.heap.size wr w') := hmk
        go_wp2_with (first | (go_at_call 108; (with_reducible refine hmk.mono ?_); rintro e va ⟨vm, rfl, hrm, hba⟩; obtain ⟨gm, cm, em⟩ := ownsRow_succ (n := 0) hrm; subst em; have hGa := hG.carry hba hbz2; have hsa := hba.size) | (at_builtin; refine wpList_append_two _ rfl _ _ 26 rfl base 61 ic _ 3 24 Tryz.underlying26 hic hz0 hz1 hz2 rfl (by decide) _ M (fl (mkM k 0 M)) rfl hGa.row ⟨gm, 0, none⟩ 1 cm (fl (mkM k M 1)) rfl (by rw [fl_len, mkM_len]) (nts_src (nts_own hrm (mkM_len k M 1).symm)) (fl_one _) (by omega) (by unfold maxLen; omega) (by omega) (by omega) ?_; intro v' w2 hown' htwo; have hG2 := hGa.app hGc hown' htwo))
        go_roundw
        case rel => exact ⟨n + 1, by simp, by omega, by have := HM.out; rw [show N + (n + 1) = M + 1 by omega]; exact hG2⟩
        case measure => simp [vnatR]; omega
      · obtain rfl : n = 16 := by omega
        have hni : ¬ ((16 : Nat) : Int) < 16 := by omega
        obtain ⟨M, hM⟩ : ∃ M, N + 16 = M := ⟨_, rfl⟩
        rw [hM] at hG ⊢
        have hM2 : M ≤ 2000 := by omega
        clear hM
        have hbs := bs_nts
        have hmk : Calls Tryz.prog 108 #[.int .i64 (k : Int), .int .i64 (M : Int), .int .i64 80] wr (fun e w' => ∃ v, e = .returned v ∧ w'.ownsRow wr.heap.size 61 3 v 80 (fl (mkM k M 80)) ∧ Below wr.heap.size wr w') := markn_any k M 80 (by omega) (by omega) (by omega) wr
        go_wp2_with (first | (go_at_call 108; (with_reducible refine hmk.mono ?_); rintro e va ⟨vm, rfl, hrm, hba⟩; obtain ⟨gm, cm, em⟩ := ownsRow_succ (n := 79) hrm; subst em; have hGa := hG.carry hba hbz2; have hsa := hba.size) | (at_builtin; refine wpList_append_two _ rfl _ _ 26 rfl base 61 ic _ 3 24 Tryz.underlying26 hic hz0 hz1 hz2 rfl (by decide) _ M (fl (mkM k 0 M)) rfl hGa.row ⟨gm, 0, none⟩ 80 cm (fl (mkM k M 80)) rfl (by rw [fl_len, mkM_len]) (nts_src (nts_own hrm (mkM_len k M 80).symm)) (fl_one _) (by omega) (by unfold maxLen; omega) (by omega) (by omega) ?_; intro v' w2 hown' htwo; obtain ⟨a', c', e', _⟩ := ownsRow_form hown'; subst e'; have hG2 := hGa.app hGc hown' htwo; have hz2' : sz ≤ w2.heap.size := hG2.sz; have hG3 := hG2.carry (al1 w2 (.cells #[.slice a' (M + 80) c'] 26)) (by omega)) | (at_builtin; refine wpList_append_own _ rfl _ _ 22 rfl s0 26 is _ 1 24 Tryz.underlying22 his hs0 hs1 hs2 rfl (by decide) _ k O rfl hG3.ro ⟨w2.heap.size, 0, none⟩ 1 1 [_] rfl rfl (one_new _ _ _) (by simp [Value.oneCell']) (by unfold maxLen; omega) (by omega) (by simp; omega) ?_; intro v2 w4 hown4 hgrow4 _))
        go_roundw
        case rel =>
          have hty : ∀ {z' : Value} {n : Nat} {ys : List Value} {b : Nat}, (w2.alloc (.cells #[.slice a' (M + 80) c'] 26)).ownsRow base 61 3 z' n ys → (Value.slice ao k co).ownBlock = some b → z'.ownBlock ≠ some b := fun hr e e2 => by
            obtain ⟨_, c5, q5⟩ := ownsRow_block hr _ e2
            exact row_free hG3.ro q5 (by decide) e
          refine ⟨k + 1, O ++ [.slice a' (M + 80) c'], by simp, by omega, hown4, ?_, hG3.kn.off hgrow4 (fun e => kb_row hG3.kn.kb hG3.ro e) (fun b e e2 => ?_) (fun b e i z' hz e2 => ?_), hG3.bl.grown hgrow4 (by simp; omega) (fun q e => by have := (row_lt2 hG3.ro q e).1; omega), by have := hgrow4.size; simp at this; omega⟩
          · intro i z' hz
            rcases Nat.lt_or_ge i k with q | q
            · rw [List.getElem?_append_left (by omega)] at hz
              refine (hG3.gk.off hgrow4 (fun b e i2 z2 hz2 => ?_)) i z' hz
              obtain ⟨n2, r2, _⟩ := hG3.gk i2 z2 hz2
              exact hty r2 e
            · have hik : i = k := by
                have := (List.getElem?_eq_some_iff.1 hz).1
                simp at this
                omega
              subst hik
              rw [List.getElem?_append_right (by omega), hOl, Nat.sub_self] at hz
              cases hz
              refine ⟨M + 80, row_apart2 hG3.row hgrow4 (fun b e => hty hG3.row e), by omega, ?_⟩
              rcases hG3.rel with ⟨g, cap, q1, q2⟩ | q2 | q2
              · exact .inl ⟨_, hGc.xk, by rw [q1, q2]; rfl⟩
              · exact .inr (fun b e => by rw [q2] at e; cases e)
              · exact .inr (fun b e => by have := (row_lt2 q2 b e).1; omega)
          · have := hul b e2
            have := (row_lt2 hG3.ro b e).1
            omega
          · have := hxl i z' b hz e2
            have := (row_lt2 hG3.ro b e).1
            omega
        case measure => simp [vnatR]; omega
end Go.Proofs.YtddblfffjhoiaabGreat
namespace Go.Proofs.YtddblfffjhoiaabGreat
open Go.RowKit Go.Shelf Go.Lib

theorem marks_of {L L' : List (List N3)} (h : upN L L' L.length) : ∀ (j : Nat) (l : List N3), L'[j]? = some l → l = mkM j 0 l.length := fun j l hl => by
  have hj : j < L.length := by rw [← h.1]; exact (List.getElem?_eq_some_iff.1 hl).1
  have := h.2 j _ (List.getElem?_eq_getElem hj)
  rw [if_pos hj, hl] at this
  have e := Option.some.inj this
  rw [e, mkM_len]
theorem mkn_of {base bb : Nat} {W : World} {u v : Value} {x : List Value} {L : List (List N3)} (h : Kn base bb W u v x L) (hm : ∀ (j : Nat) (l : List N3), L[j]? = some l → l = mkM j 0 l.length) : Mkn W x := fun i z hz => by
  have hi : i < L.length := by rw [← h.lenx]; exact (List.getElem?_eq_some_iff.1 hz).1
  obtain ⟨l, hl⟩ : ∃ l, L[i]? = some l := ⟨_, List.getElem?_eq_getElem hi⟩
  obtain ⟨z', h1, h2, h3⟩ := h.ks i l hl
  rw [hz] at h1
  cases h1
  obtain ⟨ad, c, e, hr⟩ := own_rd h2
  refine ⟨ad, l.length, c, e, ?_, by omega⟩
  rw [← hm i l hl]
  exact hr
set_option maxHeartbeats 40000000 in
set_option maxRecDepth 100000 in
theorem apart_any {base bb : Nat} {w : World} {u v : Value} {x y : List Value} {L : List (List N3)} (h : Kn base bb w u v x L) (hc : Cn base w v y L) (hbz : base ≤ w.heap.size) : Calls Tryz.prog 10 #[.pointer (some ⟨bb, 0, none⟩)] w fun e w' => e = .returned (.bool true) ∧ Below base w w' := by
  have hst := stilln_any h hc
  have hkb := h.kb
  have hsInts : ∀ V, KB V bb u v → Calls Tryz.prog 23 #[.pointer (some ⟨bb, 0, none⟩)] V fun e w' => e = .returned (.bool true) ∧ w' = V := fun V hV => stillInts_e (by rw [cell_at hV]; rfl)
  have hpInts : ∀ V, KB V bb u v → Calls Tryz.prog 35 #[.pointer (some ⟨bb, 0, none⟩)] V fun e w' => e = .returned (.tuple #[]) ∧ w' = V := fun V hV => putInts_e (by rw [cell_at hV]; rfl)
  have hgInts : ∀ V, KB V bb u v → Calls Tryz.prog 47 #[.pointer (some ⟨bb, 0, none⟩)] V fun e w' => e = .returned (.slice none 0 0) ∧ w' = V := fun V hV => growInts_e (by rw [cell_at hV]; rfl)
  have hmInts := markedInts_e
  have hsChars : ∀ V, KB V bb u v → Calls Tryz.prog 24 #[.pointer (some ⟨bb, 0, none⟩)] V fun e w' => e = .returned (.bool true) ∧ w' = V := fun V hV => stillChars_e (by rw [cell_at hV]; rfl)
  have hpChars : ∀ V, KB V bb u v → Calls Tryz.prog 36 #[.pointer (some ⟨bb, 0, none⟩)] V fun e w' => e = .returned (.tuple #[]) ∧ w' = V := fun V hV => putChars_e (by rw [cell_at hV]; rfl)
  have hgChars : ∀ V, KB V bb u v → Calls Tryz.prog 48 #[.pointer (some ⟨bb, 0, none⟩)] V fun e w' => e = .returned (.slice none 0 0) ∧ w' = V := fun V hV => growChars_e (by rw [cell_at hV]; rfl)
  have hmChars := markedChars_e
  have hsTokens : ∀ V, KB V bb u v → Calls Tryz.prog 25 #[.pointer (some ⟨bb, 0, none⟩)] V fun e w' => e = .returned (.bool true) ∧ w' = V := fun V hV => stillTokens_e (by rw [cell_at hV]; rfl)
  have hpTokens : ∀ V, KB V bb u v → Calls Tryz.prog 37 #[.pointer (some ⟨bb, 0, none⟩)] V fun e w' => e = .returned (.tuple #[]) ∧ w' = V := fun V hV => putTokens_e (by rw [cell_at hV]; rfl)
  have hgTokens : ∀ V, KB V bb u v → Calls Tryz.prog 49 #[.pointer (some ⟨bb, 0, none⟩)] V fun e w' => e = .returned (.slice none 0 0) ∧ w' = V := fun V hV => growTokens_e (by rw [cell_at hV]; rfl)
  have hmTokens := markedTokens_e
  have hsBytes : ∀ V, KB V bb u v → Calls Tryz.prog 27 #[.pointer (some ⟨bb, 0, none⟩)] V fun e w' => e = .returned (.bool true) ∧ w' = V := fun V hV => stillBytes_e (by rw [cell_at hV]; rfl)
  have hpBytes : ∀ V, KB V bb u v → Calls Tryz.prog 39 #[.pointer (some ⟨bb, 0, none⟩)] V fun e w' => e = .returned (.tuple #[]) ∧ w' = V := fun V hV => putBytes_e (by rw [cell_at hV]; rfl)
  have hgBytes : ∀ V, KB V bb u v → Calls Tryz.prog 51 #[.pointer (some ⟨bb, 0, none⟩)] V fun e w' => e = .returned (.slice none 0 0) ∧ w' = V := fun V hV => growBytes_e (by rw [cell_at hV]; rfl)
  have hmBytes := markedBytes_e
  have hsSets : ∀ V, KB V bb u v → Calls Tryz.prog 28 #[.pointer (some ⟨bb, 0, none⟩)] V fun e w' => e = .returned (.bool true) ∧ w' = V := fun V hV => stillSets_e (by rw [cell_at hV]; rfl)
  have hpSets : ∀ V, KB V bb u v → Calls Tryz.prog 40 #[.pointer (some ⟨bb, 0, none⟩)] V fun e w' => e = .returned (.tuple #[]) ∧ w' = V := fun V hV => putSets_e (by rw [cell_at hV]; rfl)
  have hgSets : ∀ V, KB V bb u v → Calls Tryz.prog 52 #[.pointer (some ⟨bb, 0, none⟩)] V fun e w' => e = .returned (.slice none 0 0) ∧ w' = V := fun V hV => growSets_e (by rw [cell_at hV]; rfl)
  have hmSets := markedSets_e
  have hsEvents : ∀ V, KB V bb u v → Calls Tryz.prog 29 #[.pointer (some ⟨bb, 0, none⟩)] V fun e w' => e = .returned (.bool true) ∧ w' = V := fun V hV => stillEvents_e (by rw [cell_at hV]; rfl)
  have hpEvents : ∀ V, KB V bb u v → Calls Tryz.prog 41 #[.pointer (some ⟨bb, 0, none⟩)] V fun e w' => e = .returned (.tuple #[]) ∧ w' = V := fun V hV => putEvents_e (by rw [cell_at hV]; rfl)
  have hgEvents : ∀ V, KB V bb u v → Calls Tryz.prog 53 #[.pointer (some ⟨bb, 0, none⟩)] V fun e w' => e = .returned (.slice none 0 0) ∧ w' = V := fun V hV => growEvents_e (by rw [cell_at hV]; rfl)
  have hmEvents := markedEvents_e
  have hsErrs : ∀ V, KB V bb u v → Calls Tryz.prog 30 #[.pointer (some ⟨bb, 0, none⟩)] V fun e w' => e = .returned (.bool true) ∧ w' = V := fun V hV => stillErrs_e (by rw [cell_at hV]; rfl)
  have hpErrs : ∀ V, KB V bb u v → Calls Tryz.prog 42 #[.pointer (some ⟨bb, 0, none⟩)] V fun e w' => e = .returned (.tuple #[]) ∧ w' = V := fun V hV => putErrs_e (by rw [cell_at hV]; rfl)
  have hgErrs : ∀ V, KB V bb u v → Calls Tryz.prog 54 #[.pointer (some ⟨bb, 0, none⟩)] V fun e w' => e = .returned (.slice none 0 0) ∧ w' = V := fun V hV => growErrs_e (by rw [cell_at hV]; rfl)
  have hmErrs := markedErrs_e
  have hsOuts : ∀ V, KB V bb u v → Calls Tryz.prog 31 #[.pointer (some ⟨bb, 0, none⟩)] V fun e w' => e = .returned (.bool true) ∧ w' = V := fun V hV => stillOuts_e (by rw [cell_at hV]; rfl)
  have hpOuts : ∀ V, KB V bb u v → Calls Tryz.prog 43 #[.pointer (some ⟨bb, 0, none⟩)] V fun e w' => e = .returned (.tuple #[]) ∧ w' = V := fun V hV => putOuts_e (by rw [cell_at hV]; rfl)
  have hgOuts : ∀ V, KB V bb u v → Calls Tryz.prog 55 #[.pointer (some ⟨bb, 0, none⟩)] V fun e w' => e = .returned (.slice none 0 0) ∧ w' = V := fun V hV => growOuts_e (by rw [cell_at hV]; rfl)
  have hmOuts := markedOuts_e
  have hsGrams : ∀ V, KB V bb u v → Calls Tryz.prog 32 #[.pointer (some ⟨bb, 0, none⟩)] V fun e w' => e = .returned (.bool true) ∧ w' = V := fun V hV => stillGrams_e (by rw [cell_at hV]; rfl)
  have hpGrams : ∀ V, KB V bb u v → Calls Tryz.prog 44 #[.pointer (some ⟨bb, 0, none⟩)] V fun e w' => e = .returned (.tuple #[]) ∧ w' = V := fun V hV => putGrams_e (by rw [cell_at hV]; rfl)
  have hgGrams : ∀ V, KB V bb u v → Calls Tryz.prog 56 #[.pointer (some ⟨bb, 0, none⟩)] V fun e w' => e = .returned (.slice none 0 0) ∧ w' = V := fun V hV => growGrams_e (by rw [cell_at hV]; rfl)
  have hmGrams := markedGrams_e
  have hsSteps : ∀ V, KB V bb u v → Calls Tryz.prog 33 #[.pointer (some ⟨bb, 0, none⟩)] V fun e w' => e = .returned (.bool true) ∧ w' = V := fun V hV => stillSteps_e (by rw [cell_at hV]; rfl)
  have hpSteps : ∀ V, KB V bb u v → Calls Tryz.prog 45 #[.pointer (some ⟨bb, 0, none⟩)] V fun e w' => e = .returned (.tuple #[]) ∧ w' = V := fun V hV => putSteps_e (by rw [cell_at hV]; rfl)
  have hgSteps : ∀ V, KB V bb u v → Calls Tryz.prog 57 #[.pointer (some ⟨bb, 0, none⟩)] V fun e w' => e = .returned (.slice none 0 0) ∧ w' = V := fun V hV => growSteps_e (by rw [cell_at hV]; rfl)
  have hmSteps := markedSteps_e
  have hsRows : ∀ V, KB V bb u v → Calls Tryz.prog 34 #[.pointer (some ⟨bb, 0, none⟩)] V fun e w' => e = .returned (.bool true) ∧ w' = V := fun V hV => stillRows_e (by rw [cell_at hV]; rfl)
  have hpRows : ∀ V, KB V bb u v → Calls Tryz.prog 46 #[.pointer (some ⟨bb, 0, none⟩)] V fun e w' => e = .returned (.tuple #[]) ∧ w' = V := fun V hV => putRows_e (by rw [cell_at hV]; rfl)
  have hgRows : ∀ V, KB V bb u v → Calls Tryz.prog 58 #[.pointer (some ⟨bb, 0, none⟩)] V fun e w' => e = .returned (.slice none 0 0) ∧ w' = V := fun V hV => growRows_e (by rw [cell_at hV]; rfl)
  have hmRows := markedRows_e
  go_enter Tryz.func10, Tryz.ntmps10
  go_wp2_with (first | (go_at_call 23; (with_reducible refine (hsInts _ (by assumption)).mono ?_); rintro e vv ⟨rfl, hvv⟩; obtain rfl := hvv.symm) | (go_at_call 35; (with_reducible refine (hpInts _ (by assumption)).mono ?_); rintro e vv ⟨rfl, hvv⟩; obtain rfl := hvv.symm) | (go_at_call 47; (with_reducible refine (hgInts _ (by assumption)).mono ?_); rintro e vv ⟨rfl, hvv⟩; obtain rfl := hvv.symm) | (go_at_call 59; (with_reducible refine (hmInts _).mono ?_); rintro e vv ⟨rfl, hvv⟩; obtain rfl := hvv.symm) | (go_at_call 24; (with_reducible refine (hsChars _ (by assumption)).mono ?_); rintro e vv ⟨rfl, hvv⟩; obtain rfl := hvv.symm) | (go_at_call 36; (with_reducible refine (hpChars _ (by assumption)).mono ?_); rintro e vv ⟨rfl, hvv⟩; obtain rfl := hvv.symm) | (go_at_call 48; (with_reducible refine (hgChars _ (by assumption)).mono ?_); rintro e vv ⟨rfl, hvv⟩; obtain rfl := hvv.symm) | (go_at_call 60; (with_reducible refine (hmChars _).mono ?_); rintro e vv ⟨rfl, hvv⟩; obtain rfl := hvv.symm) | (go_at_call 25; (with_reducible refine (hsTokens _ (by assumption)).mono ?_); rintro e vv ⟨rfl, hvv⟩; obtain rfl := hvv.symm) | (go_at_call 37; (with_reducible refine (hpTokens _ (by assumption)).mono ?_); rintro e vv ⟨rfl, hvv⟩; obtain rfl := hvv.symm) | (go_at_call 49; (with_reducible refine (hgTokens _ (by assumption)).mono ?_); rintro e vv ⟨rfl, hvv⟩; obtain rfl := hvv.symm) | (go_at_call 61; (with_reducible refine (hmTokens _).mono ?_); rintro e vv ⟨rfl, hvv⟩; obtain rfl := hvv.symm) | (go_at_call 27; (with_reducible refine (hsBytes _ (by assumption)).mono ?_); rintro e vv ⟨rfl, hvv⟩; obtain rfl := hvv.symm) | (go_at_call 39; (with_reducible refine (hpBytes _ (by assumption)).mono ?_); rintro e vv ⟨rfl, hvv⟩; obtain rfl := hvv.symm) | (go_at_call 51; (with_reducible refine (hgBytes _ (by assumption)).mono ?_); rintro e vv ⟨rfl, hvv⟩; obtain rfl := hvv.symm) | (go_at_call 63; (with_reducible refine (hmBytes _).mono ?_); rintro e vv ⟨rfl, hvv⟩; obtain rfl := hvv.symm) | (go_at_call 28; (with_reducible refine (hsSets _ (by assumption)).mono ?_); rintro e vv ⟨rfl, hvv⟩; obtain rfl := hvv.symm) | (go_at_call 40; (with_reducible refine (hpSets _ (by assumption)).mono ?_); rintro e vv ⟨rfl, hvv⟩; obtain rfl := hvv.symm) | (go_at_call 52; (with_reducible refine (hgSets _ (by assumption)).mono ?_); rintro e vv ⟨rfl, hvv⟩; obtain rfl := hvv.symm) | (go_at_call 64; (with_reducible refine (hmSets _).mono ?_); rintro e vv ⟨rfl, hvv⟩; obtain rfl := hvv.symm) | (go_at_call 29; (with_reducible refine (hsEvents _ (by assumption)).mono ?_); rintro e vv ⟨rfl, hvv⟩; obtain rfl := hvv.symm) | (go_at_call 41; (with_reducible refine (hpEvents _ (by assumption)).mono ?_); rintro e vv ⟨rfl, hvv⟩; obtain rfl := hvv.symm) | (go_at_call 53; (with_reducible refine (hgEvents _ (by assumption)).mono ?_); rintro e vv ⟨rfl, hvv⟩; obtain rfl := hvv.symm) | (go_at_call 65; (with_reducible refine (hmEvents _).mono ?_); rintro e vv ⟨rfl, hvv⟩; obtain rfl := hvv.symm) | (go_at_call 30; (with_reducible refine (hsErrs _ (by assumption)).mono ?_); rintro e vv ⟨rfl, hvv⟩; obtain rfl := hvv.symm) | (go_at_call 42; (with_reducible refine (hpErrs _ (by assumption)).mono ?_); rintro e vv ⟨rfl, hvv⟩; obtain rfl := hvv.symm) | (go_at_call 54; (with_reducible refine (hgErrs _ (by assumption)).mono ?_); rintro e vv ⟨rfl, hvv⟩; obtain rfl := hvv.symm) | (go_at_call 66; (with_reducible refine (hmErrs _).mono ?_); rintro e vv ⟨rfl, hvv⟩; obtain rfl := hvv.symm) | (go_at_call 31; (with_reducible refine (hsOuts _ (by assumption)).mono ?_); rintro e vv ⟨rfl, hvv⟩; obtain rfl := hvv.symm) | (go_at_call 43; (with_reducible refine (hpOuts _ (by assumption)).mono ?_); rintro e vv ⟨rfl, hvv⟩; obtain rfl := hvv.symm) | (go_at_call 55; (with_reducible refine (hgOuts _ (by assumption)).mono ?_); rintro e vv ⟨rfl, hvv⟩; obtain rfl := hvv.symm) | (go_at_call 67; (with_reducible refine (hmOuts _).mono ?_); rintro e vv ⟨rfl, hvv⟩; obtain rfl := hvv.symm) | (go_at_call 32; (with_reducible refine (hsGrams _ (by assumption)).mono ?_); rintro e vv ⟨rfl, hvv⟩; obtain rfl := hvv.symm) | (go_at_call 44; (with_reducible refine (hpGrams _ (by assumption)).mono ?_); rintro e vv ⟨rfl, hvv⟩; obtain rfl := hvv.symm) | (go_at_call 56; (with_reducible refine (hgGrams _ (by assumption)).mono ?_); rintro e vv ⟨rfl, hvv⟩; obtain rfl := hvv.symm) | (go_at_call 68; (with_reducible refine (hmGrams _).mono ?_); rintro e vv ⟨rfl, hvv⟩; obtain rfl := hvv.symm) | (go_at_call 33; (with_reducible refine (hsSteps _ (by assumption)).mono ?_); rintro e vv ⟨rfl, hvv⟩; obtain rfl := hvv.symm) | (go_at_call 45; (with_reducible refine (hpSteps _ (by assumption)).mono ?_); rintro e vv ⟨rfl, hvv⟩; obtain rfl := hvv.symm) | (go_at_call 57; (with_reducible refine (hgSteps _ (by assumption)).mono ?_); rintro e vv ⟨rfl, hvv⟩; obtain rfl := hvv.symm) | (go_at_call 69; (with_reducible refine (hmSteps _).mono ?_); rintro e vv ⟨rfl, hvv⟩; obtain rfl := hvv.symm) | (go_at_call 34; (with_reducible refine (hsRows _ (by assumption)).mono ?_); rintro e vv ⟨rfl, hvv⟩; obtain rfl := hvv.symm) | (go_at_call 46; (with_reducible refine (hpRows _ (by assumption)).mono ?_); rintro e vv ⟨rfl, hvv⟩; obtain rfl := hvv.symm) | (go_at_call 58; (with_reducible refine (hgRows _ (by assumption)).mono ?_); rintro e vv ⟨rfl, hvv⟩; obtain rfl := hvv.symm) | (go_at_call 70; (with_reducible refine (hmRows _).mono ?_); rintro e vv ⟨rfl, hvv⟩; obtain rfl := hvv.symm) | (go_at_call 26; (with_reducible refine hst.mono ?_); rintro e va ⟨rfl, hba⟩; have hKa := h.carry hba; have hkba := hKa.kb; have hpt := putn_any hKa (Nat.le_trans hbz hba.size); clear hkb) | (go_at_call 38; (with_reducible refine hpt.mono ?_); rintro e vb ⟨rfl, ⟨L', hKb, hup⟩, hbb'⟩; have hkbb := hKb.kb; have HBB : Hid (Below base w vb) := (hba.mono hbz).trans hbb'; have hgr := grown_any hKb (marks_of hup) (Nat.le_trans hbz HBB.out.size); clear hkba) | (go_at_call 50; (with_reducible refine hgr.mono ?_); rintro e vc ⟨uo, rfl, O, hro, hmo, hKc, hbc⟩; have hkbc := hKc.kb; have HBC : Hid (Below base w vc) := HBB.out.trans hbc; have hmk1 := markedn_any hro hmo hKb.k; have cvc_0 : vc.cell? ⟨bb, 0, none⟩ = some (.slice none 0 0) := (by rw [cell_at hkbc]; rfl); have cvc_2 : vc.cell? ⟨bb, 2, none⟩ = some (.slice none 0 0) := (by rw [cell_at hkbc]; rfl); have cvc_4 : vc.cell? ⟨bb, 4, none⟩ = some (.slice none 0 0) := (by rw [cell_at hkbc]; rfl); clear hkbb) | (go_at_call 62; (with_reducible refine hmk1.mono ?_); rintro e vd ⟨rfl, hbd⟩; clear hmk1; have hKd := hKc.carry hbd; have hkbd := hKd.kb; have HBD : Hid (Below base w vd) := HBC.out.trans (hbd.mono (Nat.le_trans hbz HBC.out.size)); have cd6 : vd.cell? ⟨bb, 6, none⟩ = some u := (by rw [cell_at hkbd]; rfl); have hmk2 := markedn_any hKd.row (mkn_of hKd (marks_of hup)) hKd.k; clear hkbc) | (go_at_call 62; (with_reducible refine hmk2.mono ?_); rintro e ve ⟨rfl, hbe⟩; clear hmk2; have hKe := hKd.carry hbe; have hkbe := hKe.kb; have HBE : Hid (Below base w ve) := HBD.out.trans (hbe.mono (Nat.le_trans hbz HBD.out.size)); have cve_8 : ve.cell? ⟨bb, 8, none⟩ = some (.slice none 0 0) := (by rw [cell_at hkbe]; rfl); have cve_10 : ve.cell? ⟨bb, 10, none⟩ = some (.slice none 0 0) := (by rw [cell_at hkbe]; rfl); have cve_12 : ve.cell? ⟨bb, 12, none⟩ = some (.slice none 0 0) := (by rw [cell_at hkbe]; rfl); have cve_14 : ve.cell? ⟨bb, 14, none⟩ = some (.slice none 0 0) := (by rw [cell_at hkbe]; rfl); have cve_16 : ve.cell? ⟨bb, 16, none⟩ = some (.slice none 0 0) := (by rw [cell_at hkbe]; rfl); have cve_18 : ve.cell? ⟨bb, 18, none⟩ = some (.slice none 0 0) := (by rw [cell_at hkbe]; rfl); have cve_20 : ve.cell? ⟨bb, 20, none⟩ = some (.slice none 0 0) := (by rw [cell_at hkbe]; rfl); have cve_22 : ve.cell? ⟨bb, 22, none⟩ = some (.slice none 0 0) := (by rw [cell_at hkbe]; rfl)))
  go_ret
  exact ⟨rfl, HBE.out⟩
end Go.Proofs.YtddblfffjhoiaabGreat
