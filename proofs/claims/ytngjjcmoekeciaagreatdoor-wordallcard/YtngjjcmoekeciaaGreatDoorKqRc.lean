/- Rows of words that are kept: put. -/
import Derived.Test.YtngjjcmoekeciaaGreatDoorKqRb
namespace Go.Proofs.YtngjjcmoekeciaaGreatDoor.Kel
open Go.RowKit Go.Shelf Go.Lib
set_option linter.unusedVariables false

/-- Put up to k. -/
def UpR (L L' : List (List tRows)) (k lo : Nat) (W : World) : Prop := L'.length = L.length ∧ ∀ (j : Nat) (l : List tRows), L[j]? = some l → ∃ l', L'[j]? = some l' ∧ l'.length = l.length ∧ (j < k → MkR j 0 lo l' W) ∧ (k ≤ j → l' = l)
section
variable {L L' : List (List tRows)} {k lo : Nat} {W V : World}
theorem UpR.zero (L : List (List tRows)) : UpR L L 0 lo W := ⟨rfl, fun j l hl => ⟨l, hl, rfl, fun h => by omega, fun _ => rfl⟩⟩
theorem UpR.carry (h : UpR L L' k lo W) (hb : Below W.heap.size W V) : UpR L L' k lo V := ⟨h.1, fun j l hl => by
  obtain ⟨l', h1, h2, h3, h4⟩ := h.2 j l hl
  exact ⟨l', h1, h2, fun q => (h3 q).carry hb, h4⟩⟩
theorem UpR.off {b : Nat} {cur : Array Value} {t : TypeId} (h : UpR L L' k lo W) (hg : W.grownBy V (some b)) (hb : W.heap[b]? = some (.cells cur t (0, 0))) (ht : t ≠ 50) : UpR L L' k lo V := ⟨h.1, fun j l hl => by
  obtain ⟨l', h1, h2, h3, h4⟩ := h.2 j l hl
  exact ⟨l', h1, h2, fun q => (h3 q).off hg hb ht, h4⟩⟩
theorem UpR.succ (h : UpR L L' k lo W) {l hs : List tRows} (hl : L[k]? = some l) (hm : MkR k 0 lo hs W) (hn : hs.length = l.length) : UpR L (L'.set k hs) (k + 1) lo W := by
  refine ⟨by rw [List.length_set]; exact h.1, fun j l2 hl2 => ?_⟩
  by_cases e : k = j
  · subst e
    rw [hl] at hl2
    cases hl2
    exact ⟨hs, List.getElem?_set_self (by rw [h.1]; exact (List.getElem?_eq_some_iff.1 hl).1), hn, fun _ => hm, fun q => by omega⟩
  · obtain ⟨l', h1, h2, h3, h4⟩ := h.2 j l2 hl2
    exact ⟨l', by rw [List.getElem?_set_ne e]; exact h1, h2, fun q => h3 (by omega), fun q => h4 (by omega)⟩
/-- All that is kept is marked. -/
def MkdR (L : List (List tRows)) (lo : Nat) (W : World) : Prop := ∀ (j : Nat) (l : List tRows), L[j]? = some l → MkR j 0 lo l W
theorem UpR.all (h : UpR L L' L.length lo W) : MkdR L' lo W := fun j l hl => by
  have hj : j < L.length := by rw [← h.1]; exact (List.getElem?_eq_some_iff.1 hl).1
  obtain ⟨l', h1, _, h3, _⟩ := h.2 j _ (List.getElem?_eq_getElem hj)
  rw [hl] at h1
  cases h1
  exact h3 hj
end
set_option maxHeartbeats 8000000 in
set_option maxRecDepth 100000 in
theorem putRows_any {base bb : Nat} {w : World} {u : Value} {C : Array Value} {x : List Value} {L : List (List tRows)} (hB : Bb 38 w bb C) (hu : C[22]? = some u) (h : Kl cRows 1 39 27 base w u x L) : Calls Tryz.prog 47 #[.pointer (some ⟨bb, 0, none⟩)] w fun e w' => e = .returned (.tuple #[]) ∧ (∃ L', Kl cRows 1 39 27 base w' u x L' ∧ UpR L L' L.length w.heap.size w') ∧ Bx x w w' := by
  have hmx : Tryz.prog.follows .mixedOrders = true := by kernel_rfl
  have hTT : (39 : TypeId) ≠ 27 := by decide
  obtain ⟨au, cu, eu, _⟩ := rowForm h.row
  subst eu
  have hk4 := h.k
  have hpB := h.px hB (by decide)
  have m6 : ∀ (V : World), Bx x w V → V.cell? ⟨bb, 22, none⟩ = some (.slice au L.length cu) := fun V hV => by
    rw [cell_at ((hV.block _ (lt_at hB) hpB).trans hB), hu]
  obtain ⟨N, hN⟩ : ∃ N, N = L.length := ⟨_, rfl⟩
  rw [← hN] at m6 h hk4 ⊢
  have HN : Hid (N = L.length) := hN
  clear hN hu
  go_enter Tryz.func47, Tryz.ntmps47
  go_wp2
  go_loopw [2] (fun i wz => ∃ (k : Nat) (L' : List (List tRows)), i = .int .i64 (k : Int) ∧ k ≤ N ∧ Kl cRows 1 39 27 base wz (.slice au N cu) x L' ∧ UpR L L' k w.heap.size wz ∧ Bx x w wz) (fun i _ => N - vnat i)
  case atStart => exact ⟨0, L, rfl, Nat.zero_le _, h, UpR.zero L, Bx.refl _ _⟩
  case round =>
    obtain ⟨k, L', rfl, hk, hK', hup, hbw⟩ := hrel
    have mm := m6 _ hbw
    by_cases hkl : k < N
    case neg =>
      have hki : ¬ (k : Int) < (N : Int) := by omega
      obtain rfl : k = N := by omega
      go_wp2
      go_end0
      exact ⟨rfl, ⟨L', hK', hup⟩, hbw⟩
    have hki : (k : Int) < (N : Int) := by omega
    obtain ⟨l, hl⟩ : ∃ l, L[k]? = some l := ⟨_, List.getElem?_eq_getElem (by rw [← HN.out]; exact hkl)⟩
    have hl' : L'[k]? = some l := by
      obtain ⟨l9, e1, _, _, e4⟩ := hup.2 k l hl
      rw [e1, e4 (Nat.le_refl _)]
    obtain ⟨gu, cu', z, e1, c1, hxz, hfl, hln⟩ := hK'.cell hl'
    simp only [Value.slice.injEq] at e1
    obtain ⟨rfl, -, rfl⟩ := e1
    obtain ⟨adx, cx, rfl, hrx, -⟩ := own_rd hfl
    obtain ⟨ll, hll⟩ : ∃ ll, ll = l.length := ⟨_, rfl⟩
    rw [← hll] at c1 hln hfl hxz
    have HLL : Hid (ll = l.length) := hll
    have hmk := markRows_any k 0 ll (by omega) (by omega) (by omega) wr
    have hgx : ∀ g, (Value.slice adx ll cx).ownBlock = some g → g < wr.heap.size ∧ base ≤ g := fun g e => (row_lt hfl g e).symm
    obtain ⟨sz, hsz⟩ : ∃ sz, wr.heap.size = sz := ⟨_, rfl⟩
    rw [hsz] at hgx hmk
    have HSZ : Hid (wr.heap.size = sz) := hsz
    clear hsz
    have HLK : Hid (L[k]? = some l) := hl
    have HLK' : Hid (L'[k]? = some l) := hl'
    have HXZ : Hid (x[k]? = some (.slice adx ll cx)) := hxz
    have HUP : Hid (UpR L L' k w.heap.size wr) := hup
    have hw0 := hbw.size
    clear hl hl' hxz hup hll
    have hmk : Calls Tryz.prog 104 #[.int .i64 (k : Int), .int .i64 0, .int .i64 (ll : Int)] wr (fun e w' => ∃ v, e = .returned v ∧ ∃ hs, w'.ownsRow sz 39 1 v ll (fc cRows hs) ∧ MkR k 0 sz hs w' ∧ Below sz wr w') := hmk
    go_wp2_with (go_at_call 104; (with_reducible refine hmk.mono ?_); rintro e va ⟨vm, rfl, HS, hro, hmk0, hba⟩; have hHS := row_lh hro; obtain ⟨am, cm, em, _⟩ := rowForm hro; subst em; have hba' : Below wr.heap.size wr va := (by rw [HSZ.out]; exact hba); have hKa := hK'.carry hba'; have hBa := hbw.below hba'; have hUa := HUP.out.carry hba'; have hmk1 := hmk0.low (show w.heap.size ≤ sz by have := HSZ.out; omega); clear hmk0)
    go_loopw [4] (fun i wz => ∃ j : Nat, i = .int .i64 (j : Int) ∧ j ≤ ll ∧ Kl cRows 1 39 27 base wz (.slice (some ⟨gu, 0, none⟩) N cu) x (L'.set k ((HS).take j ++ l.drop j)) ∧ wz.ownsRow sz 39 1 (.slice am ll cm) ll (fc cRows (HS)) ∧ Bx x w wz ∧ MkR k 0 w.heap.size HS wz ∧ UpR L L' k w.heap.size wz) (fun i _ => ll - vnat i)
    case atStart => exact ⟨0, rfl, Nat.zero_le _, by rw [List.take_zero, List.nil_append, List.drop_zero, set_same HLK'.out]; exact hKa, hro, hBa, hmk1, hUa⟩
    case round =>
      obtain ⟨j, rfl, hj, hKj, hrj, hBj, hMj, hUj⟩ := hrel
      have mj := m6 _ hBj
      by_cases hjl : j < ll
      case neg =>
        have hji : ¬ (j : Int) < (ll : Int) := by omega
        obtain rfl : j = ll := by omega
        have hfin : (HS).take j ++ l.drop j = HS := by rw [List.take_of_length_le (by omega), List.drop_of_length_le (by rw [← HLL.out]; omega), List.append_nil]
        rw [hfin] at hKj
        go_wp2
        go_roundw
        case rel => exact ⟨k + 1, _, by simp, by omega, hKj, hUj.succ HLK.out hMj (hHS.trans HLL.out), hBj⟩
        case measure => simp [vnat]; omega
      have hji : (j : Int) < (ll : Int) := by omega
      obtain ⟨aj, hy⟩ : ∃ a, HS[j]? = some a := ⟨_, List.getElem?_eq_getElem (by omega)⟩
      rcases own_form hrj with ⟨_, e⟩ | ⟨gm, cm', em, hgm, hgm2, _⟩
      · omega
      simp only [Value.slice.injEq] at em
      obtain ⟨rfl, -, rfl⟩ := em
      have hll : ((HS).take j ++ l.drop j).length = ll := by rw [List.length_append, List.length_take, List.length_drop, ← HLL.out]; omega
      have hcl : (L'.set k ((HS).take j ++ l.drop j))[k]? = some ((HS).take j ++ l.drop j) := List.getElem?_set_self (List.getElem?_eq_some_iff.1 HLK'.out).1
      have hst : ((HS).take j ++ l.drop j).set j aj = (HS).take (j + 1) ++ l.drop (j + 1) := take_put hy (by rw [hHS]; exact HLL.out.symm)
      rcases own_form hfl with ⟨_, e⟩ | ⟨g, cg, ez, _⟩
      · omega
      simp only [Value.slice.injEq] at ez
      obtain ⟨rfl, -, rfl⟩ := ez
      obtain ⟨hglt, hgb⟩ := hgx g rfl
      have hgmg : gm ≠ g := by omega
      have HY : Hid (HS[j]? = some aj) := hy
      clear hy
      have hspot : ∀ V, Kl cRows 1 39 27 base V (.slice (some ⟨gu, 0, none⟩) N cu) x (L'.set k ((HS).take j ++ l.drop j)) → V.cell? ⟨gu, k, none⟩ = some (.slice (some ⟨g, 0, none⟩) ll cx) := fun V hV => by
        obtain ⟨gu2, cu2, z2, q1, q2, q3, _⟩ := hV.cell hcl
        simp only [Value.slice.injEq, Option.some.injEq, Addr.mk.injEq] at q1
        obtain ⟨⟨rfl, -⟩, -⟩ := q1
        rw [HXZ.out] at q3
        obtain rfl := Option.some.inj q3
        exact q2
      go_wp2
      rename_i hK
      refine wp_region_any hmx ?_
      refine wpAny_last 13 (fun i__ => ([(.pointer (some ⟨bb, 0, none⟩)), (.pointer (some ⟨bb, 0, none⟩)), (.pointer (some ⟨bb, 22, none⟩)), (.slice (some ⟨gu, 0, none⟩) N cu), (.int .i64 (k : Int)), (.pointer (some ⟨gu, k, none⟩)), (.slice (some ⟨g, 0, none⟩) ll cx), (.int .i64 (j : Int)), (.slice (some ⟨gm, 0, none⟩) ll cm), (.int .i64 (j : Int)), (.pointer (some ⟨gm, 0 + j, none⟩)), (eRows aj), (.pointer (some ⟨g, 0 + j, none⟩)), undef] : List Value).getD i__ undef) (fun V => Kl cRows 1 39 27 base V (.slice (some ⟨gu, 0, none⟩) N cu) x (L'.set k ((HS).take j ++ l.drop j)) ∧ V.ownsRow sz 39 1 (.slice (some ⟨gm, 0, none⟩) ll cm) ll (fc cRows (HS)) ∧ Bx x w V ∧ MkR k 0 w.heap.size HS V ∧ UpR L L' k w.heap.size V) (fun V => Kl cRows 1 39 27 base V (.slice (some ⟨gu, 0, none⟩) N cu) x (L'.set k ((HS).take (j + 1) ++ l.drop (j + 1))) ∧ V.ownsRow sz 39 1 (.slice (some ⟨gm, 0, none⟩) ll cm) ll (fc cRows (HS)) ∧ Bx x w V ∧ MkR k 0 w.heap.size HS V ∧ UpR L L' k w.heap.size V) rfl (by kernel_rfl) (by kernel_rfl) (⟨hKj.carry (Below.refl _ _).drew, row_below hrj (Below.refl _ _).drew, hBj.below (Below.refl _ _).drew, hMj.carry (Below.refl _ _).drew, hUj.carry (Below.refl _ _).drew⟩) ?_ ?_  ?_
      · refine (stepsFrom_cons ?_ (stepsFrom_cons ?_ (stepsFrom_cons ?_ (stepsFrom_cons ?_ (stepsFrom_cons ?_ (stepsFrom_cons ?_ (stepsFrom_cons ?_ (stepsFrom_cons ?_ (stepsFrom_cons ?_ (stepsFrom_cons ?_ (stepsFrom_cons ?_ (stepsFrom_cons ?_ (stepsFrom_cons ?_ trivial)))))))))))))
        · exact step_move rfl trivial _ rfl (by kernel_rfl)
        · exact step_nilCheck rfl trivial _ _ _ rfl rfl rfl
        · exact step_fieldAddr rfl trivial _ _ _ _ rfl rfl (fun v hw => fldRows v _)
        · exact step_load rfl trivial _ _ _ rfl rfl (fun v hw => lddRows (m6 _ hw.2.2.1))
        · exact step_move rfl trivial _ rfl (by kernel_rfl)
        · exact step_indexAddr rfl trivial _ _ _ _ _ rfl rfl rfl (fun v hw => ixxRows gu _ _ k hkl v)
        · exact step_load rfl trivial _ _ _ rfl rfl (fun v hw => ldsRows (hspot _ hw.1))
        · exact step_move rfl trivial _ rfl (by kernel_rfl)
        · exact step_move rfl trivial _ rfl (by kernel_rfl)
        · exact step_move rfl trivial _ rfl (by kernel_rfl)
        · exact step_indexAddr rfl trivial _ _ _ _ _ rfl rfl rfl (fun v hw => ixRows gm 0 ll cm j hjl v)
        · exact step_load rfl trivial _ _ _ rfl rfl (fun v hw => ldRows (FA.own hw.2.1) HY.out)
        · exact step_indexAddr rfl trivial _ _ _ _ _ rfl rfl rfl (fun v hw => ixRows g 0 ll cx j hjl v)
      · intro o ho
        cases ho
        exact step_store rfl trivial rfl _ _ _ _ _ rfl rfl rfl (fun V hw => by obtain ⟨z2, q1, q2, _⟩ := hw.1.ks k _ hcl; rw [HXZ.out] at q1; obtain rfl := Option.some.inj q1; rw [hll] at q2; obtain ⟨V', r1, r2, r3⟩ := putRows q2 hll.symm hjl aj; obtain ⟨_, curg, hcg⟩ := rowBlk q2 g rfl; refine ⟨V', r1, ?_, row_off hw.2.1 r3 (fun b e e2 => by obtain rfl := Option.some.inj e; simp only [Value.ownBlock, Option.some.injEq] at e2; exact hgmg e2), hw.2.2.1.grown r3 (fun q e => by obtain rfl := Option.some.inj e; exact .inl (Px.no HXZ.out rfl)), hw.2.2.2.1.off r3 hcg (by decide), hw.2.2.2.2.off r3 hcg (by decide)⟩; have hk9 := hw.1.turn hTT hcl HXZ.out rfl (by rw [List.length_set, hll]; exact r2) (List.length_set ..) r3; rw [List.set_set, hst] at hk9; exact hk9)
      intro W hW
      first | refine hK _ _ ?_ | refine (‹∀ (a : Act) (w : World), Code.wp Tryz.prog _ _ a w → _›) _ _ ?_ | skip
      simp only [finL, List.getD_cons_zero, List.getD_cons_succ, Nat.zero_add, Nat.reduceAdd, List.setIfInBounds_toArray, List.set_cons_zero, List.set_cons_succ]
      clear hK
      go_wp2
      go_roundw
      case rel => exact ⟨j + 1, by simp, by omega, hW.1, hW.2.1, hW.2.2.1, hW.2.2.2.1, hW.2.2.2.2⟩
      case measure => simp [vnat]; omega
end Go.Proofs.YtngjjcmoekeciaaGreatDoor.Kel
