/- earshotbook's putSets: all kept lists are marked. -/
import Derived.Test.YtcdefcaoocnlbaaZmd
import Derived.Test.YtcdefcaoocnlbaaRow
namespace Go.Proofs.Ytcdefcaoocnlbaa
open Go.RowKit Go.Shelf Go.Lib

theorem fs_take (l : List Nat) (j : Nat) : (fs l).take (j * 4) = fs (l.take j) := by
  have h : fs l = fs (l.take j) ++ fs (l.drop j) := by rw [← fs_append, List.take_append_drop]
  by_cases hj : j ≤ l.length
  · rw [h, List.take_append_of_le_length (by rw [fs_len, List.length_take]; omega), List.take_of_length_le (by rw [fs_len, List.length_take]; omega)]
  · rw [List.take_of_length_le (by rw [fs_len]; omega), List.take_of_length_le (by omega)]
theorem fs_drop (l : List Nat) (j : Nat) : (fs l).drop (j * 4) = fs (l.drop j) := by
  have h : fs l = fs (l.take j) ++ fs (l.drop j) := by rw [← fs_append, List.take_append_drop]
  by_cases hj : j ≤ l.length
  · rw [h, List.drop_append, List.drop_of_length_le (by rw [fs_len, List.length_take]; omega), List.nil_append, fs_len, List.length_take, show j * 4 - min j l.length * 4 = 0 by omega, List.drop_zero]
  · rw [List.drop_of_length_le (by rw [fs_len]; omega), List.drop_of_length_le (by omega)]
    rfl
theorem fs_setN (l : List Nat) (j : Nat) (x : Nat) (hj : j < l.length) : fs (l.set j x) = (fs l).take (j * 4) ++ ([.int .u32 (wd x 0 : Nat), .int .u32 (wd x 1 : Nat), .int .u32 (wd x 2 : Nat), .int .u32 (wd x 3 : Nat)] ++ (fs l).drop (j * 4 + 4)) := by
  rw [fs_take, show j * 4 + 4 = (j + 1) * 4 by omega, fs_drop, List.set_eq_take_append_cons_drop, if_pos hj, fs_append, fs_cons]
  rfl
/-- A list that is one's own, one of its notices put. -/
theorem row_putN {W : World} {base g n cap : Nat} {l : List Nat} (h : W.ownsRow base 24 4 (.slice (some ⟨g, 0, none⟩) n cap) n (fs l)) (hn : n = l.length) {j : Nat} (hj : j < n) (x : Nat) :
    ∃ V, (Instr.storeAt 24 (.pointer (some ⟨g, 0 + j * 4, none⟩)) (sv x)).run Try.prog W = .ok () V ∧ V.ownsRow base 24 4 (.slice (some ⟨g, 0, none⟩) n cap) n (fs (l.set j x)) ∧ W.grownBy V (some g) := by
  subst hn
  obtain ⟨h1, h2⟩ := h
  rcases h2 with ⟨e, _⟩ | ⟨g', cap', cur, e, hb, hc, h4, h5, h6, h7⟩
  · cases e
  cases e
  have hi : (Try.prog.info? 24).map (·.size) = some 4 := by kernel_rfl
  have hsz : (j + 1) * 4 ≤ cap * 4 := by omega
  have hs := run_store_in (P := Try.prog) W g (0 + j * 4) 24 24 cur.toList [.int .u32 (wd x 0 : Nat), .int .u32 (wd x 1 : Nat), .int .u32 (wd x 2 : Nat), .int .u32 (wd x 3 : Nat)] (by simpa using hc) hi (by simp; omega) (by simp [Value.oneCell'])
  refine ⟨_, hs, ⟨by rw [fs_len, List.length_set], .inr ⟨g, cap, _, rfl, hb, setRow_heap _ _ _ _ _ _ hc, by simpa using h4, h5, ?_, ?_⟩⟩, ⟨rfl, rfl, rfl, by simp [World.setRow], fun k _ hk => setRow_other (fun e => hk (by rw [e]))⟩⟩
  · simp [splice]
    omega
  · have e1 : (fs l).length = l.length * 4 := fs_len l
    obtain ⟨R, hR⟩ : ∃ R, cur.toList.drop (l.length * 4) = R := ⟨_, rfl⟩
    have e2 : cur.toList = fs l ++ R := by rw [← h7, ← hR, List.take_append_drop]
    have e3 : (0 + j * 4) = j * 4 := by omega
    rw [e3]
    unfold splice
    rw [fs_setN l j x hj]
    have l1 : (cur.toList.take (j * 4)) = (fs l).take (j * 4) := by rw [e2, List.take_append_of_le_length (by omega)]
    have l2 : cur.toList.drop (j * 4 + 4) = (fs l).drop (j * 4 + 4) ++ R := by rw [e2, List.drop_append, e1, show j * 4 + 4 - l.length * 4 = 0 by omega, List.drop_zero]
    simp only [List.length_cons, List.length_nil]
    rw [show j * 4 + (0 + 1 + 1 + 1 + 1) = j * 4 + 4 by omega, l1, l2]
    simp only [← List.append_assoc]
    rw [List.take_append_of_le_length (by simp; omega), List.take_of_length_le (by simp; omega)]
section
variable {base bb : Nat} {W V : World} {u v : Value} {x : List Value} {L : List (List Nat)}
/-- One list turns, in its own block. -/
theorem Kn.turn (h : Kn base bb W u v x L) {i g : Nat} {l l' : List Nat} {z : Value} (hl : L[i]? = some l) (hz : x[i]? = some z) (hzg : z.ownBlock = some g) (hV : V.ownsRow base 24 4 z l'.length (fs l')) (hlen : l'.length = l.length) (hg : W.grownBy V (some g)) : Kn base bb V u v x (L.set i l') := by
  obtain ⟨z0, k1, k2, k3⟩ := h.ks i l hl
  rw [hz] at k1
  obtain rfl := Option.some.inj k1
  obtain ⟨_, cur, hgc⟩ := ownsRow_block k2 g hzg
  have hbb : bb ≠ g := fun e => by
    have := h.kb
    unfold KB at this
    rw [e, hgc] at this
    simp only [Option.some.injEq, Obj.cells.injEq] at this
    exact absurd this.2.1 (by decide)
  refine ⟨(hg.block _ (lt_at h.kb) (by simpa using hbb)).trans h.kb, by rw [List.length_set]; exact row_apart2 h.row hg (fun b e => by obtain rfl := Option.some.inj e; exact row_type h.row hgc (by decide)), fun i' l2 hl2 => ?_, h.ap, h.bb, by rw [List.length_set]; exact h.k⟩
  by_cases e : i = i'
  · subst e
    rw [List.getElem?_set_self (List.getElem?_eq_some_iff.1 hl).1] at hl2
    obtain rfl := Option.some.inj hl2
    exact ⟨z, hz, hV, by omega⟩
  · rw [List.getElem?_set_ne e] at hl2
    obtain ⟨z', q1, q2, q3⟩ := h.ks i' l2 hl2
    exact ⟨z', q1, row_apart2 q2 hg (fun b e2 e3 => by
      obtain rfl := Option.some.inj e2
      exact e (h.ap i i' g z z' hz q1 hzg e3)), q3⟩
/-- A young block turns. -/
theorem Kn.young (h : Kn base bb W u v x L) {b : Nat} (hb : ∀ q, q < b → q < V.heap.size → q < W.heap.size → V.heap[q]? = W.heap[q]?) (hs : W.heap.size ≤ b) (hz : W.heap.size ≤ V.heap.size) : Kn base bb V u v x L := by
  have key : ∀ q, q < W.heap.size → V.heap[q]? = W.heap[q]? := fun q hq => hb q (by omega) (by omega) hq
  have rows : ∀ {e : TypeId} {s n : Nat} {z : Value} {ys : List Value}, W.ownsRow base e s z n ys → V.ownsRow base e s z n ys := fun hr => by
    obtain ⟨h1, h2⟩ := hr
    refine ⟨h1, ?_⟩
    rcases h2 with h2 | ⟨g, cap, cur, h3, h4, h5, h6⟩
    · exact .inl h2
    · exact .inr ⟨g, cap, cur, h3, h4, (key g (lt_at h5)).trans h5, h6⟩
  exact ⟨(key _ (lt_at h.kb)).trans h.kb, rows h.row, fun i l hl => by
    obtain ⟨z, q1, q2, q3⟩ := h.ks i l hl
    exact ⟨z, q1, rows q2, q3⟩, h.ap, h.bb, h.k⟩
theorem set_sameN {α : Type} {L : List α} {k : Nat} {l : α} (h : L[k]? = some l) : L.set k l = L := by
  refine List.ext_getElem? fun j => ?_
  by_cases e : k = j
  · subst e
    rw [List.getElem?_set_self (List.getElem?_eq_some_iff.1 h).1, h]
  · rw [List.getElem?_set_ne e]
theorem take_putN {m l : List Nat} {j : Nat} {y : Nat} (hj : m[j]? = some y) (hl : l.length = m.length) : (m.take j ++ l.drop j).set j y = m.take (j + 1) ++ l.drop (j + 1) := by
  obtain ⟨hlt, rfl⟩ := List.getElem?_eq_some_iff.1 hj
  have e1 : (m.take j).length = j := by rw [List.length_take]; omega
  rw [List.set_append_right _ _ (by omega), e1, Nat.sub_self, List.drop_eq_getElem_cons (by omega), List.set_cons_zero, ← List.take_append_getElem hlt, List.append_assoc]
  rfl
end
/-- Marked up to k. -/
def upN (L L' : List (List Nat)) (k : Nat) : Prop := L'.length = L.length ∧ ∀ (j : Nat) (l : List Nat), L[j]? = some l → L'[j]? = some (if j < k then mkM j 0 l.length else l)
theorem upN.zero (L : List (List Nat)) : upN L L 0 := ⟨rfl, fun j l hl => by rw [if_neg (by omega)]; exact hl⟩
theorem upN.succ {L L' : List (List Nat)} {k : Nat} (h : upN L L' k) {l : List Nat} (hl : L[k]? = some l) : upN L (L'.set k (mkM k 0 l.length)) (k + 1) := by
  refine ⟨by rw [List.length_set]; exact h.1, fun j l' hl' => ?_⟩
  by_cases e : k = j
  · subst e
    rw [hl] at hl'
    cases hl'
    rw [List.getElem?_set_self (by rw [h.1]; exact (List.getElem?_eq_some_iff.1 hl).1), if_pos (by omega)]
  · rw [List.getElem?_set_ne e, h.2 j l' hl']
    by_cases q : j < k
    · rw [if_pos q, if_pos (by omega)]
    · rw [if_neg q, if_neg (by omega)]
set_option maxHeartbeats 8000000 in
set_option maxRecDepth 100000 in
theorem putn_any {base bb : Nat} {w : World} {u v : Value} {x : List Value} {L : List (List Nat)} (h : Kn base bb w u v x L) : Calls Try.prog 50 #[.pointer (some ⟨bb, 0, none⟩)] w fun e w' => e = .returned (.tuple #[]) ∧ (∃ L', Kn base bb w' u v x L' ∧ upN L L' L.length) ∧ Bx x w w' := by
  have hmx : Try.prog.follows .mixedOrders = true := by kernel_rfl
  obtain ⟨au, cu, eu, _⟩ := ownsRow_form h.row
  subst eu
  have hk4 := h.k
  have m6 : ∀ (V : World) (L' : List (List Nat)), Kn base bb V (.slice au L.length cu) v x L' → V.cell? ⟨bb, 10, none⟩ = some (.slice au L.length cu) := fun V L' hV => by
    rw [cell_at hV.kb]
    rfl
  go_enter Try.func50, Try.ntmps50
  go_wp2
  go_loopw [2] (fun i wz => ∃ (k : Nat) (L' : List (List Nat)), i = .int .i64 (k : Int) ∧ k ≤ L.length ∧ Kn base bb wz (.slice au L.length cu) v x L' ∧ upN L L' k ∧ Bx x w wz) (fun i _ => L.length - vnatR i)
  case atStart => exact ⟨0, L, rfl, Nat.zero_le _, h, upN.zero L, Bx.refl _ _⟩
  case round =>
    obtain ⟨k, L', rfl, hk, hK', hup, hbw⟩ := hrel
    have mm := m6 _ _ hK'
    by_cases hkl : k < L.length
    case neg =>
      have hki : ¬ (k : Int) < (L.length : Int) := by omega
      obtain rfl : k = L.length := by omega
      go_wp2
      go_end0
      exact ⟨rfl, ⟨L', hK', hup⟩, hbw⟩
    have hki : (k : Int) < (L.length : Int) := by omega
    obtain ⟨l, hl⟩ : ∃ l, L[k]? = some l := ⟨_, List.getElem?_eq_getElem hkl⟩
    have hl' : L'[k]? = some l := by rw [hup.2 k l hl, if_neg (by omega)]
    obtain ⟨gu, cu', z, e1, c1, hxz, hfl, hln⟩ := hK'.cell hl'
    simp only [Value.slice.injEq] at e1
    obtain ⟨rfl, _, rfl⟩ := e1
    obtain ⟨adx, cx, rfl, hrx⟩ := own_rd hfl
    have hmk := markn_any k 0 l.length (by omega) (by omega) (by omega) wr
    have hgx : ∀ g, (Value.slice adx l.length cx).ownBlock = some g → g < wr.heap.size ∧ base ≤ g := fun g e => (row_lt2 hfl g e).symm
    obtain ⟨sz, hsz⟩ : ∃ sz, wr.heap.size = sz := ⟨_, rfl⟩
    rw [hsz] at hgx hmk
    have HSZ : Hid (wr.heap.size = sz) := hsz
    clear hsz
    have HLK : Hid (L[k]? = some l) := hl
    have HLK' : Hid (L'[k]? = some l) := hl'
    have HXZ : Hid (x[k]? = some (.slice adx l.length cx)) := hxz
    have HUP : Hid (upN L L' k) := hup
    clear hl hl' hxz hup
    have hmk : Calls Try.prog 107 #[.int .i64 (k : Int), .int .i64 0, .int .i64 (l.length : Int)] wr (fun e w' => ∃ v, e = .returned v ∧ w'.ownsRow sz 24 4 v l.length (fs (mkM k 0 l.length)) ∧ Below sz wr w') := hmk
    go_wp2_with (go_at_call 107; (with_reducible refine hmk.mono ?_); rintro e va ⟨vm, rfl, hro, hba⟩; obtain ⟨am, cm, em, _⟩ := ownsRow_form hro; subst em; have hba' : Below wr.heap.size wr va := (by rw [HSZ.out]; exact hba); have hKa := hK'.carry hba'; have hBa := hbw.below hba')
    go_loopw [4] (fun i wz => ∃ j : Nat, i = .int .i64 (j : Int) ∧ j ≤ l.length ∧ Kn base bb wz (.slice (some ⟨gu, 0, none⟩) L.length cu) v x (L'.set k ((mkM k 0 l.length).take j ++ l.drop j)) ∧ wz.ownsRow sz 24 4 (.slice am l.length cm) l.length (fs (mkM k 0 l.length)) ∧ Bx x w wz) (fun i _ => l.length - vnatR i)
    case atStart => exact ⟨0, rfl, Nat.zero_le _, by rw [List.take_zero, List.nil_append, List.drop_zero, set_sameN HLK'.out]; exact hKa, hro, hBa⟩
    case round =>
      obtain ⟨j, rfl, hj, hKj, hrj, hBj⟩ := hrel
      by_cases hjl : j < l.length
      case neg =>
        have hji : ¬ (j : Int) < (l.length : Int) := by omega
        obtain rfl : j = l.length := by omega
        have hfin : (mkM k 0 l.length).take l.length ++ l.drop l.length = mkM k 0 l.length := by rw [List.take_of_length_le (by rw [mkM_len]; omega), List.drop_length, List.append_nil]
        rw [hfin] at hKj
        go_wp2
        go_roundw
        case rel => exact ⟨k + 1, _, by simp, by omega, hKj, HUP.out.succ HLK.out, hBj⟩
        case measure => simp [vnatR]; omega
      have hji : (j : Int) < (l.length : Int) := by omega
      have hy := mkM_get k l.length j hjl
      rcases own_form hrj with ⟨_, e⟩ | ⟨gm, cm', em, hgm, hgm2, _⟩
      · omega
      simp only [Value.slice.injEq] at em
      obtain ⟨rfl, _, rfl⟩ := em
      have hll : ((mkM k 0 l.length).take j ++ l.drop j).length = l.length := by rw [List.length_append, List.length_take, mkM_len, List.length_drop]; omega
      have hcl : (L'.set k ((mkM k 0 l.length).take j ++ l.drop j))[k]? = some ((mkM k 0 l.length).take j ++ l.drop j) := List.getElem?_set_self (List.getElem?_eq_some_iff.1 HLK'.out).1
      have hst : ((mkM k 0 l.length).take j ++ l.drop j).set j (joinW k j 7 9) = (mkM k 0 l.length).take (j + 1) ++ l.drop (j + 1) := take_putN hy (mkM_len k 0 l.length).symm
      rcases own_form hfl with ⟨_, e⟩ | ⟨g, cg, ez, _⟩
      · omega
      simp only [Value.slice.injEq] at ez
      obtain ⟨rfl, _, rfl⟩ := ez
      obtain ⟨hglt, hgb⟩ := hgx g rfl
      have hgmg : gm ≠ g := by omega
      have HY : Hid ((mkM k 0 l.length)[j]? = some (joinW k j 7 9)) := hy
      clear hy
      have mj := m6 _ _ hKj
      have hspot : ∀ V, Kn base bb V (.slice (some ⟨gu, 0, none⟩) L.length cu) v x (L'.set k ((mkM k 0 l.length).take j ++ l.drop j)) → V.cell? ⟨gu, k, none⟩ = some (.slice (some ⟨g, 0, none⟩) l.length cx) := fun V hV => by
        obtain ⟨gu2, cu2, z2, q1, q2, q3, _⟩ := hV.cell hcl
        simp only [Value.slice.injEq, Option.some.injEq, Addr.mk.injEq] at q1
        obtain ⟨⟨rfl, _⟩, _⟩ := q1
        rw [HXZ.out] at q3
        obtain rfl := Option.some.inj q3
        exact q2
      go_wp2
      rename_i hK
      refine wp_region_any hmx ?_
      refine wpAny_last 13 (fun i__ => ([(.pointer (some ⟨bb, 0, none⟩)), (.pointer (some ⟨bb, 0, none⟩)), (.pointer (some ⟨bb, 10, none⟩)), (.slice (some ⟨gu, 0, none⟩) L.length cu), (.int .i64 (k : Int)), (.pointer (some ⟨gu, k, none⟩)), (.slice (some ⟨g, 0, none⟩) l.length cx), (.int .i64 (j : Int)), (.slice (some ⟨gm, 0, none⟩) l.length cm), (.int .i64 (j : Int)), (.pointer (some ⟨gm, 0 + j * 4, none⟩)), (sv (joinW k j 7 9)), (.pointer (some ⟨g, 0 + j * 4, none⟩)), undef] : List Value).getD i__ undef) (fun V => Kn base bb V (.slice (some ⟨gu, 0, none⟩) L.length cu) v x (L'.set k ((mkM k 0 l.length).take j ++ l.drop j)) ∧ V.ownsRow sz 24 4 (.slice (some ⟨gm, 0, none⟩) l.length cm) l.length (fs (mkM k 0 l.length)) ∧ Bx x w V) (fun V => Kn base bb V (.slice (some ⟨gu, 0, none⟩) L.length cu) v x (L'.set k ((mkM k 0 l.length).take (j + 1) ++ l.drop (j + 1))) ∧ V.ownsRow sz 24 4 (.slice (some ⟨gm, 0, none⟩) l.length cm) l.length (fs (mkM k 0 l.length)) ∧ Bx x w V) rfl (by kernel_rfl) (by kernel_rfl) (⟨hKj.carry (Below.refl _ _).drew, row_below hrj (Below.refl _ _).drew, hBj.below (Below.refl _ _).drew⟩) ?_ ?_  ?_
      · refine (stepsFrom_cons ?_ (stepsFrom_cons ?_ (stepsFrom_cons ?_ (stepsFrom_cons ?_ (stepsFrom_cons ?_ (stepsFrom_cons ?_ (stepsFrom_cons ?_ (stepsFrom_cons ?_ (stepsFrom_cons ?_ (stepsFrom_cons ?_ (stepsFrom_cons ?_ (stepsFrom_cons ?_ (stepsFrom_cons ?_ trivial)))))))))))))
        · exact step_move rfl trivial _ rfl (by kernel_rfl)
        · exact step_nilCheck rfl trivial _ _ _ rfl rfl rfl
        · exact step_fieldAddr rfl trivial _ _ _ _ rfl rfl (fun v hw => field_b6 v _)
        · exact step_load rfl trivial _ _ _ rfl rfl (fun v hw => load_nn (m6 _ _ hw.1))
        · exact step_move rfl trivial _ rfl (by kernel_rfl)
        · exact step_indexAddr rfl trivial _ _ _ _ _ rfl rfl rfl (fun v hw => idx_nn gu _ _ k hkl v)
        · exact step_load rfl trivial _ _ _ rfl rfl (fun v hw => load_nl (hspot _ hw.1))
        · exact step_move rfl trivial _ rfl (by kernel_rfl)
        · exact step_move rfl trivial _ rfl (by kernel_rfl)
        · exact step_move rfl trivial _ rfl (by kernel_rfl)
        · exact step_indexAddr rfl trivial _ _ _ _ _ rfl rfl rfl (fun v hw => idx_s gm 0 l.length cm j hjl v)
        · exact step_load rfl trivial _ _ _ rfl rfl (fun v hw => load_sk (ss_own hw.2.1 (mkM_len k 0 l.length).symm) HY.out)
        · exact step_indexAddr rfl trivial _ _ _ _ _ rfl rfl rfl (fun v hw => idx_s g 0 l.length cx j hjl v)
      · intro o ho
        cases ho
        exact step_store rfl trivial rfl _ _ _ _ _ rfl rfl rfl (fun V hw => by obtain ⟨z2, q1, q2, _⟩ := hw.1.ks k _ hcl; rw [HXZ.out] at q1; obtain rfl := Option.some.inj q1; rw [hll] at q2; obtain ⟨V', r1, r2, r3⟩ := row_putN q2 hll.symm hjl (joinW k j 7 9); refine ⟨V', r1, ?_, row_apart2 hw.2.1 r3 (fun b e e2 => by obtain rfl := Option.some.inj e; simp only [Value.ownBlock, Option.some.injEq] at e2; exact hgmg e2), hw.2.2.grown r3 (fun q e => by obtain rfl := Option.some.inj e; exact .inl (Px.no HXZ.out rfl))⟩; have hk9 := hw.1.turn hcl HXZ.out rfl (by rw [List.length_set, hll]; exact r2) (List.length_set ..) r3; rw [List.set_set, hst] at hk9; exact hk9)
      intro W hW
      first | refine hK _ _ ?_ | refine (‹∀ (a : Act) (w : World), Code.wp Try.prog _ _ a w → _›) _ _ ?_
      simp only [finL, List.getD_cons_zero, List.getD_cons_succ, Nat.zero_add, Nat.reduceAdd, List.setIfInBounds_toArray, List.set_cons_zero, List.set_cons_succ]
      clear hK
      go_wp2
      go_roundw
      case rel => exact ⟨j + 1, by simp, by omega, hW.1, hW.2.1, hW.2.2⟩
      case measure => simp [vnatR]; omega
end Go.Proofs.Ytcdefcaoocnlbaa
