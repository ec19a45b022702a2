/- Lists of the kind Tokens that are kept. -/
import Derived.Test.YtngjjcmoekeciaaGreatDoorKqj
import Derived.Test.YtngjjcmoekeciaaGreatDoorBin
namespace Go.Proofs.YtngjjcmoekeciaaGreatDoor.Kel
open Go.RowKit Go.Shelf Go.Lib

abbrev tTokens := Int × ByteArray × Int × Int
def cTokens (a : tTokens) : List Value := [.int .i64 a.1, .string a.2.1, .int .i64 a.2.2.1, .int .i64 a.2.2.2]
def eTokens (a : tTokens) : Value := .agg #[.int .i64 a.1, .string a.2.1, .int .i64 a.2.2.1, .int .i64 a.2.2.2]
def mTokens (i k : Nat) : tTokens := (-1 - (i : Int), ByteArray.empty, (k : Int), 0)
theorem hsTokens : ∀ a, (cTokens a).length = 4 := fun _ => rfl
theorem h1Tokens : ∀ a, ∀ v ∈ cTokens a, v.oneCell' = true := by
  intro a v h
  simp only [cTokens, List.mem_cons, List.not_mem_nil, or_false] at h
  rcases h with rfl | rfl | rfl | rfl <;> rfl
theorem kiTokens : KI 50 39 27 38 4 40 := by
  obtain ⟨i, h1, h2, h3, h4⟩ := info_parts (t := 50) (z := some (.agg #[.int .i64 0, .string ByteArray.empty, .int .i64 0, .int .i64 0])) (s := 4) (b := 40) (by kernel_rfl)
  exact ⟨⟨i, _, h1, h2, h3, h4, rfl⟩, Tryz.underlying39, info_parts (by kernel_rfl), Tryz.underlying27, by decide, by decide, by decide, by decide, by decide⟩
theorem fldTokens (W : World) (B : Nat) : (Instr.fieldAt 38 (.pointer (some ⟨B, 0, none⟩)) 4).run Tryz.prog W = .ok (.pointer (some ⟨B, 4, none⟩)) W := by go_simp
theorem flcTokens (W : World) (B : Nat) : (Instr.fieldAt 38 (.pointer (some ⟨B, 0, none⟩)) 5).run Tryz.prog W = .ok (.pointer (some ⟨B, 5, none⟩)) W := by go_simp
theorem lddTokens {V : World} {B j n c : Nat} {a : Option Addr} (h : V.cell? ⟨B, j, none⟩ = some (.slice a n c)) : (Instr.loadAt 27 (.pointer (some ⟨B, j, none⟩))).run Tryz.prog V = .ok (.slice a n c) V := by go_simp
theorem ldsTokens {V : World} {B j n c : Nat} {a : Option Addr} (h : V.cell? ⟨B, j, none⟩ = some (.slice a n c)) : (Instr.loadAt 39 (.pointer (some ⟨B, j, none⟩))).run Tryz.prog V = .ok (.slice a n c) V := by go_simp
theorem ixxTokens (g n cap k : Nat) (h : k < n) (w : World) : (Instr.indexAt 27 (.slice (some ⟨g, 0, none⟩) n cap) (.int .i64 (k : Int))).run Tryz.prog w = .ok (.pointer (some ⟨g, k, none⟩)) w := by
  have h1 : (k : Int) < (n : Int) := by omega
  go_simp
theorem ixTokens (gb off n cap k : Nat) (h : k < n) (W : World) : (Instr.indexAt 39 (.slice (some ⟨gb, off, none⟩) n cap) (.int .i64 (k : Int))).run Tryz.prog W = .ok (.pointer (some ⟨gb, off + k * 4, none⟩)) W := by
  have h1 : (k : Int) < (n : Int) := by omega
  have h2 : 0 ≤ (k : Int) := by omega
  go_simp
theorem lnTokens (t : TypeId) (bs : Array Bool) (a : Option Addr) (n c : Nat) (w : World) : (builtin .len #[39] t bs #[.slice a n c]).run Tryz.prog w = .ok (.value (.int .i64 (n : Int))) w := by
  show ((do pure (.value (← Builtin.len_ #[39] t #[.slice a n c]))) : Sem Next).run Tryz.prog w = _
  go_simp
theorem unnTokens (a : Bool) (w : World) : (Op.unary .not (.bool a)).run Tryz.prog w = .ok (.bool (!a)) w := by
  cases a <;> simp [go_sem]
theorem cesTokens {W : World} {b off : Nat} {l : List tTokens} (h : FA W b off (fc cTokens l)) {k : Nat} {a : tTokens} (hk : l[k]? = some a) : W.cell? ⟨b, off + k * 4, none⟩ = some (.int .i64 a.1) ∧ W.cell? ⟨b, off + k * 4 + 1, none⟩ = some (.string a.2.1) ∧ W.cell? ⟨b, off + k * 4 + 2, none⟩ = some (.int .i64 a.2.2.1) ∧ W.cell? ⟨b, off + k * 4 + 3, none⟩ = some (.int .i64 a.2.2.2) := by
  have key : ∀ j v, (cTokens a)[j]? = some v → W.cell? ⟨b, off + k * 4 + j, none⟩ = some v := fun j v hj => by
    rw [Nat.add_assoc]
    exact h _ _ ((fc_get hsTokens l k a hk j (List.getElem?_eq_some_iff.1 hj).1).trans hj)
  exact ⟨(by have := key 0 _ rfl; simpa using this), key 1 _ rfl, key 2 _ rfl, key 3 _ rfl⟩
theorem ldTokens {W : World} {b off : Nat} {l : List tTokens} (h : FA W b off (fc cTokens l)) {k : Nat} {a : tTokens} (hk : l[k]? = some a) : (Instr.loadAt 50 (.pointer (some ⟨b, off + k * 4, none⟩))).run Tryz.prog W = .ok (eTokens a) W := by
  obtain ⟨c0, c1, c2, c3⟩ := cesTokens h hk
  obtain ⟨o, ho⟩ : ∃ o, off + k * 4 = o := ⟨_, rfl⟩
  rw [ho] at c0 c1 c2 c3 ⊢
  unfold eTokens
  go_simp
theorem putTokens {W : World} {base g n cap : Nat} {l : List tTokens} (h : W.ownsRow base 50 4 (.slice (some ⟨g, 0, none⟩) n cap) n (fc cTokens l)) (hn : n = l.length) {j : Nat} (hj : j < n) (a : tTokens) :
    ∃ V, (Instr.storeAt 50 (.pointer (some ⟨g, 0 + j * 4, none⟩)) (eTokens a)).run Tryz.prog W = .ok () V ∧ V.ownsRow base 50 4 (.slice (some ⟨g, 0, none⟩) n cap) n (fc cTokens (l.set j a)) ∧ W.grownBy V (some g) := by
  have := row_put hsTokens h1Tokens h hn hj a (eTokens a) rfl (by kernel_rfl)
  skip
  exact this
theorem putqTokens {W : World} {base g off n cap : Nat} {l : List tTokens} (h : Pq base 50 4 (.slice (some ⟨g, off, none⟩) n cap) n (fc cTokens l) W) (hn : n = l.length) {j : Nat} (hj : j < n) (a : tTokens) :
    ∃ V, (Instr.storeAt 50 (.pointer (some ⟨g, off + j * 4, none⟩)) (eTokens a)).run Tryz.prog W = .ok () V ∧ Pq base 50 4 (.slice (some ⟨g, off, none⟩) n cap) n (fc cTokens (l.set j a)) V ∧ (∀ {b2 n2 : Nat} {z2 : Value} {cs2 : List Value}, Pq b2 50 4 z2 n2 cs2 W → Az 4 (.slice (some ⟨g, off, none⟩) n cap) z2 → Pq b2 50 4 z2 n2 cs2 V) ∧ W.grownBy V (some g) := by
  have := pq_put hsTokens (by decide) h1Tokens h hn hj a (eTokens a) rfl (by kernel_rfl)
  skip
  exact this
theorem newTokens (W : World) (cs : Array Value) (t : TypeId) : ∀ j u, cs.toList[j]? = some u → (W.alloc (.cells cs t)).cell? ((⟨W.heap.size, 0, none⟩ : Addr).add j) = some u := by
  intro j u h
  have hg : (W.alloc (.cells cs t)).heap[W.heap.size]? = some (.cells cs t) := new_at rfl
  rw [add_pl, Nat.zero_add, cell_at hg j, ← h]
  simp
set_option maxHeartbeats 4000000 in
set_option maxRecDepth 100000 in
theorem markTokens_any (i f n : Nat) (hi : i ≤ 400) (hf : f ≤ 3000000) (hn : n ≤ 3000000) (w : World) : Calls Tryz.prog 95 #[.int .i64 (i : Int), .int .i64 (f : Int), .int .i64 (n : Int)] w fun e w' => ∃ v, e = .returned v ∧ w'.ownsRow w.heap.size 50 4 v n (fc cTokens (mkL mTokens i f n)) ∧ Below w.heap.size w w' := by
  obtain ⟨ic, zc, hic, hz0, hz1, hz2, hz3⟩ := kiTokens.iT
  go_enter Tryz.func95, Tryz.ntmps95
  go_wp2
  go_loopw [7, 8] (fun v k wz => ∃ j : Nat, k = .int .i64 ((f + j : Nat) : Int) ∧ j ≤ n ∧ wz.ownsRow w.heap.size 50 4 v j (fc cTokens (mkL mTokens i f j)) ∧ Below w.heap.size w wz) (fun _ k _ => f + n - vnat k)
  case atStart => exact ⟨0, rfl, Nat.zero_le _, World.ownsRow_nil _ _ _ _, Below.refl _ _⟩
  case round =>
    obtain ⟨j, rfl, hj, hrow, hbw⟩ := hrel
    have hsw := hbw.size
    by_cases hjn : j < n
    · have hji : ((f + j : Nat) : Int) < (f : Int) + (n : Int) := by omega
      obtain ⟨q, hq⟩ : ∃ q, f + j = q := ⟨_, rfl⟩
      rw [hq] at hji ⊢
      have hq2 : q ≤ 6000000 := by omega
      have HF : fc cTokens (mkL mTokens i f (j + 1)) = fc cTokens (mkL mTokens i f j) ++ cTokens ((-1 - (i : Int), ByteArray.empty, (q : Int), 0)) := by
        rw [mkL_succ, fc_append, hq]
        simp [fc, mTokens]
      have HQ : Hid (f + j = q) := hq
      have HF : Hid (fc cTokens (mkL mTokens i f (j + 1)) = fc cTokens (mkL mTokens i f j) ++ [.int .i64 (-1 - (i : Int)), .string ByteArray.empty, .int .i64 (q : Int), .int .i64 0]) := HF
      clear hq
      go_wp2_with (at_builtin; refine wpList_append_own _ rfl _ _ 39 rfl w.heap.size 50 ic _ 4 40 Tryz.underlying39 hic hz0 hz1 hz2 hz3 (by decide) _ j (fc cTokens (mkL mTokens i f j)) rfl (hrow.alloc _) ⟨wr.heap.size, 0, none⟩ 1 1 [_, _, _, _] rfl rfl (newTokens _ #[_, _, _, _] _) (by simp [Value.oneCell']) (by unfold maxLen; omega) (by omega) (Nat.le_trans hsw (by simp)) ?_; intro v' w2 hown' hgrow _)
      go_roundw
      case rel =>
        refine ⟨j + 1, by have := HQ.out; simp; omega, by omega, ?_, (hbw.alloc hsw _).grown hgrow (Nat.le_trans hsw (by simp)) (fun q e => (row_lt hrow q e).1)⟩
        rw [HF.out]
        exact hown'
      case measure => have := HQ.out; simp [vnat]; omega
    · have hjj : j = n := by omega
      subst hjj
      have hji : ¬ ((f + j : Nat) : Int) < (f : Int) + (j : Int) := by omega
      go_wp2
      go_ret
      exact ⟨_, rfl, hrow, hbw⟩
theorem eqTokens {x y : Operand} (a : tTokens) (w : World) : binRun Tryz.prog .eql 50 x y (eTokens a) (eTokens a) w = .ok (.bool true) w := by
  unfold binRun eTokens
  go_simp
set_option maxHeartbeats 4000000 in
set_option maxRecDepth 100000 in
theorem sameTokens_any (ad ad' : Option Addr) (n cap cap' : Nat) (l : List tTokens) (hn : n = l.length) (w : World) (h : RdF w ad (fc cTokens l)) (h' : RdF w ad' (fc cTokens l)) (hl : n ≤ 4611686018427387904) : Calls Tryz.prog 7 #[.slice ad n cap, .slice ad' n cap'] w fun e w' => e = .returned (.bool true) ∧ Below w.heap.size w w' := by
  have hmx : Tryz.prog.follows .mixedOrders = true := by kernel_rfl
  have HN : Hid (n = l.length) := hn
  clear hn
  go_enter Tryz.func7, Tryz.ntmps7
  go_wp2
  go_loopw [5] (fun c wz => ∃ k : Nat, c = .int .i64 k ∧ k ≤ n ∧ Below w.heap.size w wz) (fun c _ => n - vnat c)
  case atStart => exact ⟨0, rfl, Nat.zero_le _, Below.refl _ _⟩
  case round =>
    obtain ⟨k, rfl, hk, hbw⟩ := hrel
    by_cases hkl : k < n
    · have hki : (k : Int) < (n : Int) := by omega
      have hne : fc cTokens l ≠ [] := fun e => by
        have := fc_len hsTokens l
        rw [e, ← HN.out] at this
        simp at this
        omega
      obtain ⟨b, off, rfl, hgl, hat⟩ := h hne
      obtain ⟨b', off', rfl, hgl', hat'⟩ := h' hne
      obtain ⟨a, hx⟩ : ∃ a, l[k]? = some a := ⟨_, List.getElem?_eq_getElem (by rw [← HN.out]; exact hkl)⟩
      go_wp2
      refine wp_region_any hmx ?_
      refine wpAny_pure (fun i__ => ([(.slice (some ⟨b, off, none⟩) n cap), (.int .i64 (k : Int)), (.pointer (some ⟨b, off + k * 4, none⟩)), (eTokens a), (.slice (some ⟨b', off', none⟩) n cap'), (.int .i64 (k : Int)), (.pointer (some ⟨b', off' + k * 4, none⟩)), (eTokens a), (.bool true), (.bool false)] : List Value).getD i__ undef) (fun W => Below w.heap.size w W) (by kernel_rfl) hbw.drew ?_ ?_
      · refine (stepsFrom_cons ?_ (stepsFrom_cons ?_ (stepsFrom_cons ?_ (stepsFrom_cons ?_ (stepsFrom_cons ?_ (stepsFrom_cons ?_ (stepsFrom_cons ?_ (stepsFrom_cons ?_ (stepsFrom_cons ?_ (stepsFrom_cons ?_ trivial))))))))))
        · exact step_move rfl trivial _ rfl (by kernel_rfl)
        · exact step_move rfl trivial _ rfl (by kernel_rfl)
        · exact step_indexAddr rfl trivial _ _ _ _ _ rfl rfl rfl (fun w hw => ixTokens b off _ _ k hkl w)
        · exact step_load rfl trivial _ _ _ rfl rfl (fun w hw => ldTokens (hat.of (hw.block _ hgl)) hx)
        · exact step_move rfl trivial _ rfl (by kernel_rfl)
        · exact step_move rfl trivial _ rfl (by kernel_rfl)
        · exact step_indexAddr rfl trivial _ _ _ _ _ rfl rfl rfl (fun w hw => ixTokens b' off' _ _ k hkl w)
        · exact step_load rfl trivial _ _ _ rfl rfl (fun w hw => ldTokens (hat'.of (hw.block _ hgl')) hx)
        · exact step_binOp rfl trivial _ _ _ _ _ _ _ rfl rfl rfl (fun w hw => eqTokens a w)
        · exact step_unOp rfl trivial _ _ _ _ rfl rfl (fun w hw => unnTokens true w)
      intro W hW
      first | refine hK _ _ ?_ | refine (‹∀ (a : Act) (w : World), Code.wp Tryz.prog _ _ a w → _›) _ _ ?_ | skip
      simp only [finL, List.getD_cons_zero, List.getD_cons_succ, Nat.zero_add, Nat.reduceAdd, List.setIfInBounds_toArray, List.set_cons_zero, List.set_cons_succ]
      go_wp2
      go_roundw
      case rel => exact ⟨k + 1, by simp, by omega, hW⟩
      case measure => simp [vnat]; omega
    · have hkk : k = n := by omega
      subst hkk
      have hki : ¬ ((k : Int) < (k : Int)) := by omega
      go_wp2
      go_ret
      exact ⟨rfl, hbw⟩
set_option maxHeartbeats 4000000 in
set_option maxRecDepth 100000 in
theorem stillTokens_any {base bb : Nat} {w : World} {u v : Value} {C : Array Value} {x y : List Value} {L : List (List tTokens)} (hB : Bb 38 w bb C) (hu : C[4]? = some u) (hv : C[5]? = some v) (h : Kq cTokens 4 50 39 base w u x L) (hc : Cl cTokens 39 base w v y L) : Calls Tryz.prog 26 #[.pointer (some ⟨bb, 0, none⟩)] w fun e w' => e = .returned (.bool true) ∧ Below w.heap.size w w' := by
  have hmx : Tryz.prog.follows .mixedOrders = true := by kernel_rfl
  obtain ⟨au, cu, eu, _⟩ := rowForm h.row
  have m6 : ∀ V, Below w.heap.size w V → V.cell? ⟨bb, 4, none⟩ = some (.slice au L.length cu) := fun V hV => by
    rw [cell_at ((hV.block _ (lt_at hB)).trans hB), hu, eu]
  obtain ⟨av, cv, ev, _⟩ := rowForm hc.row
  have m7 : ∀ V, Below w.heap.size w V → V.cell? ⟨bb, 5, none⟩ = some (.slice av L.length cv) := fun V hV => by
    rw [cell_at ((hV.block _ (lt_at hB)).trans hB), hv, ev]
  have hk4 := h.k
  obtain ⟨N, hN⟩ : ∃ N, N = L.length := ⟨_, rfl⟩
  rw [← hN] at m6 m7 eu ev hk4
  have HN : Hid (N = L.length) := hN
  clear hN hu hv
  go_enter Tryz.func26, Tryz.ntmps26
  go_wp2
  go_loopw [3] (fun i wz => ∃ k : Nat, i = .int .i64 (k : Int) ∧ k ≤ N ∧ Below w.heap.size w wz) (fun i _ => N - vnat i)
  case atStart => exact ⟨0, rfl, Nat.zero_le _, Below.refl _ _⟩
  case round =>
    obtain ⟨k, rfl, hk, hb⟩ := hrel
    have mm := m6 _ hb
    by_cases hkl : k < N
    · have hki : (k : Int) < (N : Int) := by omega
      obtain ⟨l, hl⟩ : ∃ l, L[k]? = some l := ⟨_, List.getElem?_eq_getElem (by rw [← HN.out]; exact hkl)⟩
      obtain ⟨gu, cu', z, e1, c1, hxz, hfl, hln⟩ := h.cell hl
      rw [eu] at e1
      simp only [Value.slice.injEq] at e1
      obtain ⟨rfl, -, rfl⟩ := e1
      obtain ⟨adx, cx, rfl, hrx, -⟩ := hfl.rd
      obtain ⟨ady, cy, hyz, hry⟩ := hc.ks k l hl
      have hcr := hc.row
      rcases own_form hcr with ⟨_, e⟩ | ⟨gv, cv', e2, _⟩
      · have := HN.out
        omega
      rw [e2] at hcr
      rw [ev] at e2
      simp only [Value.slice.injEq] at e2
      obtain ⟨rfl, -, rfl⟩ := e2
      have c2 : w.cell? ⟨gv, k, none⟩ = some (.slice ady l.length cy) := (hcr.cellAt _ (by have := hc.row.1; have := HN.out; omega)).trans hyz
      have hgu := cell_lt c1
      have hgv := cell_lt c2
      clear hyz hxz hl
      obtain ⟨ll, hll⟩ : ∃ ll, ll = l.length := ⟨_, rfl⟩
      rw [← hll] at c1 c2 hln
      have HLL : Hid (ll = l.length) := hll
      clear hll
      go_wp2
      rename_i hK
      refine wp_region_any hmx ?_
      refine wpAny_pure (fun i__ => ([(.pointer (some ⟨bb, 0, none⟩)), (.pointer (some ⟨bb, 0, none⟩)), (.pointer (some ⟨bb, 4, none⟩)), (.slice (some ⟨gu, 0, none⟩) N cu), (.int .i64 (k : Int)), (.pointer (some ⟨gu, k, none⟩)), (.slice adx ll cx), (.pointer (some ⟨bb, 0, none⟩)), (.pointer (some ⟨bb, 0, none⟩)), (.pointer (some ⟨bb, 5, none⟩)), (.slice (some ⟨gv, 0, none⟩) N cv), (.int .i64 (k : Int)), (.pointer (some ⟨gv, k, none⟩)), (.slice ady ll cy), (.bool true), (.bool false)] : List Value).getD i__ undef) (fun V => Below w.heap.size w V) (by kernel_rfl) (hb.drew) ?_ ?_
      · refine (stepsFrom_cons ?_ (stepsFrom_cons ?_ (stepsFrom_cons ?_ (stepsFrom_cons ?_ (stepsFrom_cons ?_ (stepsFrom_cons ?_ (stepsFrom_cons ?_ (stepsFrom_cons ?_ (stepsFrom_cons ?_ (stepsFrom_cons ?_ (stepsFrom_cons ?_ (stepsFrom_cons ?_ (stepsFrom_cons ?_ (stepsFrom_cons ?_ (stepsFrom_cons ?_ (stepsFrom_cons ?_ trivial))))))))))))))))
        · exact step_move rfl trivial _ rfl (by kernel_rfl)
        · exact step_nilCheck rfl trivial _ _ _ rfl rfl rfl
        · exact step_fieldAddr rfl trivial _ _ _ _ rfl rfl (fun v hw => fldTokens v _)
        · exact step_load rfl trivial _ _ _ rfl rfl (fun v hw => lddTokens (m6 v hw))
        · exact step_move rfl trivial _ rfl (by kernel_rfl)
        · exact step_indexAddr rfl trivial _ _ _ _ _ rfl rfl rfl (fun v hw => ixxTokens gu _ _ k hkl v)
        · exact step_load rfl trivial _ _ _ rfl rfl (fun v hw => ldsTokens ((hw.cell (p := ⟨gu, k, none⟩) hgu).trans c1))
        · exact step_move rfl trivial _ rfl (by kernel_rfl)
        · exact step_nilCheck rfl trivial _ _ _ rfl rfl rfl
        · exact step_fieldAddr rfl trivial _ _ _ _ rfl rfl (fun v hw => flcTokens v _)
        · exact step_load rfl trivial _ _ _ rfl rfl (fun v hw => lddTokens (m7 v hw))
        · exact step_move rfl trivial _ rfl (by kernel_rfl)
        · exact step_indexAddr rfl trivial _ _ _ _ _ rfl rfl rfl (fun v hw => ixxTokens gv _ _ k hkl v)
        · exact step_load rfl trivial _ _ _ rfl rfl (fun v hw => ldsTokens ((hw.cell (p := ⟨gv, k, none⟩) hgv).trans c2))
        · exact step_call rfl trivial 7 _ _ [(.slice adx ll cx), (.slice ady ll cy)] rfl (by kernel_rfl) (enters_of Tryz.func7 (by kernel_rfl) rfl) (fun v hw => (sameTokens_any adx ady ll cx cy l HLL.out v (hrx.carry hw) (hry.carry hw) (by omega)).mono (by rintro e w' ⟨rfl, hb'⟩; exact ⟨rfl, bel2 hw hb'⟩))
        · exact step_unOp rfl trivial _ _ _ _ rfl rfl (fun v hw => unnTokens true v)
      intro W hW
      first | refine hK _ _ ?_ | refine (‹∀ (a : Act) (w : World), Code.wp Tryz.prog _ _ a w → _›) _ _ ?_ | skip
      simp only [finL, List.getD_cons_zero, List.getD_cons_succ, Nat.zero_add, Nat.reduceAdd, List.setIfInBounds_toArray, List.set_cons_zero, List.set_cons_succ]
      clear hK
      go_wp2
      go_roundw
      case rel => exact ⟨k + 1, by simp, by omega, hW⟩
      case measure => simp [vnat]; omega
    · have hki : ¬ (k : Int) < (N : Int) := by omega
      go_wp2
      go_ret
      exact ⟨rfl, hb⟩
set_option maxHeartbeats 4000000 in
set_option maxRecDepth 100000 in
theorem markedTokens_any {base k : Nat} {w : World} {uu : Value} {xs : List Value} (h : w.ownsRow base 39 1 uu k xs) (hm : Mkn mTokens cTokens w xs) (hk : k ≤ 400) : Calls Tryz.prog 62 #[uu] w fun e w' => e = .returned (.bool true) ∧ Below w.heap.size w w' := by
  have hmx : Tryz.prog.follows .mixedOrders = true := by kernel_rfl
  obtain ⟨au, cu, eu, _⟩ := rowForm h
  subst eu
  have hlen : xs.length = k := by have := h.1; omega
  go_enter Tryz.func62, Tryz.ntmps62
  go_wp2
  go_loopw [3] (fun i wz => ∃ j : Nat, i = .int .i64 (j : Int) ∧ j ≤ k ∧ Below w.heap.size w wz) (fun i _ => k - vnat i)
  case atStart => exact ⟨0, rfl, Nat.zero_le _, Below.refl _ _⟩
  case round =>
    obtain ⟨j, rfl, hj, hb⟩ := hrel
    by_cases hjk : j < k
    · have hji : (j : Int) < (k : Int) := by omega
      obtain ⟨z, hz⟩ : ∃ z, xs[j]? = some z := ⟨_, List.getElem?_eq_getElem (by omega)⟩
      obtain ⟨adx, n, c, rfl, hrx, hn⟩ := hm j z hz
      rcases own_form h with ⟨_, e⟩ | ⟨gu, cu', e1, _⟩
      · omega
      cases e1
      have c1 : w.cell? ⟨gu, j, none⟩ = some (.slice adx n c) := (h.cellAt _ (by omega)).trans hz
      have hgu := cell_lt c1
      go_wp2
      rename_i hK
      refine wp_region_any hmx ?_
      refine wpAny_tabG (G := Value) (fun g i__ => ([(.slice (some ⟨gu, 0, none⟩) k cu), (.int .i64 (j : Int)), (.pointer (some ⟨gu, j, none⟩)), (.slice adx n c), (.int .i64 (j : Int)), (.slice (some ⟨gu, 0, none⟩) k cu), (.int .i64 (j : Int)), (.pointer (some ⟨gu, j, none⟩)), (.slice adx n c), (.int .i64 (n : Int)), g, (.bool true), (.bool false)] : List Value).getD i__ undef) (fun g d V => Below w.heap.size w V ∧ (d 10 = true → V.ownsRow w.heap.size 50 4 g n (fc cTokens (mkL mTokens j 0 n)))) (by kernel_rfl) (undef) (⟨hb.drew, fun q => by cases q⟩) ?step1 ?fin1
      case step1 =>
        intro i o ho
        have hi : i < 13 := getElem?_lt ho
        match i, hi, ho with
        | 0, _, ho =>
          cases ho
          refine stepG_of (fun g d hdep => ?_)
          exact step_move rfl trivial _ rfl (by kernel_rfl)
        | 1, _, ho =>
          cases ho
          refine stepG_of (fun g d hdep => ?_)
          exact step_move rfl trivial _ rfl (by kernel_rfl)
        | 2, _, ho =>
          cases ho
          refine stepG_of (fun g d hdep => ?_)
          exact step_indexAddr rfl trivial _ _ _ _ _ rfl rfl rfl (fun v hw => ixxTokens gu _ _ j hjk v)
        | 3, _, ho =>
          cases ho
          refine stepG_of (fun g d hdep => ?_)
          exact step_load rfl trivial _ _ _ rfl rfl (fun v hw => ldsTokens ((hw.1.cell (p := ⟨gu, j, none⟩) hgu).trans c1))
        | 4, _, ho =>
          cases ho
          refine stepG_of (fun g d hdep => ?_)
          exact step_move rfl trivial _ rfl (by kernel_rfl)
        | 5, _, ho =>
          cases ho
          refine stepG_of (fun g d hdep => ?_)
          exact step_move rfl trivial _ rfl (by kernel_rfl)
        | 6, _, ho =>
          cases ho
          refine stepG_of (fun g d hdep => ?_)
          exact step_move rfl trivial _ rfl (by kernel_rfl)
        | 7, _, ho =>
          cases ho
          refine stepG_of (fun g d hdep => ?_)
          exact step_indexAddr rfl trivial _ _ _ _ _ rfl rfl rfl (fun v hw => ixxTokens gu _ _ j hjk v)
        | 8, _, ho =>
          cases ho
          refine stepG_of (fun g d hdep => ?_)
          exact step_load rfl trivial _ _ _ rfl rfl (fun v hw => ldsTokens ((hw.1.cell (p := ⟨gu, j, none⟩) hgu).trans c1))
        | 9, _, ho =>
          cases ho
          refine stepG_of (fun g d hdep => ?_)
          exact step_bi rfl trivial _ _ _ [(.slice adx n c)] rfl (by kernel_rfl) (fun bs v hw => lnTokens _ bs _ _ _ v)
        | 10, _, ho =>
          cases ho
          exact stepG_call rfl (fun _ => trivial) 95 _ _ (fun _ => [.int .i64 (j : Int), .int .i64 0, .int .i64 (n : Int)]) rfl (fun g => by kernel_rfl) (enters_of Tryz.func95 (by kernel_rfl) rfl) (fun g d V hJ hun hdep hcl => (markTokens_any j 0 n (by omega) (by omega) (by omega) V).mono (by rintro e V' ⟨v', rfl, hro, hb'⟩; refine ⟨v', rfl, (fun j hj => match j, hj with | 10, hj => (by rw [hj] at hun; cases hun)  | 0, _ => rfl | 1, _ => rfl | 2, _ => rfl | 3, _ => rfl | 4, _ => rfl | 5, _ => rfl | 6, _ => rfl | 7, _ => rfl | 8, _ => rfl | 9, _ => rfl | 11, _ => rfl | 12, _ => rfl | _ + 13, _ => rfl), ?_⟩; exact ⟨bel2 hJ.1 hb', fun _ => row_base hro hJ.1.size⟩))
        | 11, _, ho =>
          cases ho
          refine stepG_of (fun g d hdep => ?_)
          exact step_call rfl trivial 7 _ _ [(.slice adx n c), g] rfl (by kernel_rfl) (enters_of Tryz.func7 (by kernel_rfl) rfl) (fun v hw => by have h1 : d 10 = true := hdep 10 (by kernel_rfl); have ho := hw.2 h1; obtain ⟨a', c', e', hr', -⟩ := own_rd ho; have hq := sameTokens_any adx a' n c c' (mkL mTokens j 0 n) (mkL_len j 0 n).symm v (hrx.carry hw.1) hr' (by omega); show Calls Tryz.prog _ [Value.slice adx n c, g].toArray v _; rw [e'] at ho ⊢; exact hq.mono (by rintro e w' ⟨rfl, hb'⟩; exact ⟨rfl, bel2 hw.1 hb', fun _ => row_below ho hb'⟩))
        | 12, _, ho =>
          cases ho
          refine stepG_of (fun g d hdep => ?_)
          exact step_unOp rfl trivial _ _ _ _ rfl rfl (fun v hw => unnTokens true v)
      intro g d W hall hW
      first | refine hK _ _ ?_ | refine (‹∀ (a : Act) (w : World), Code.wp Tryz.prog _ _ a w → _›) _ _ ?_ | skip
      simp only [finL, List.getD_cons_zero, List.getD_cons_succ, Nat.zero_add, Nat.reduceAdd, List.setIfInBounds_toArray, List.set_cons_zero, List.set_cons_succ]
      have hWb := hW.1
      clear hK hall hW
      go_wp2
      go_roundw
      case rel => exact ⟨j + 1, by simp, by omega, hWb⟩
      case measure => simp [vnat]; omega
    · have hji : ¬ (j : Int) < (k : Int) := by omega
      go_wp2
      go_ret
      exact ⟨rfl, hb⟩
set_option maxHeartbeats 8000000 in
set_option maxRecDepth 100000 in
theorem putTokens_any {base bb : Nat} {w : World} {u : Value} {C : Array Value} {x : List Value} {L : List (List tTokens)} (hB : Bb 38 w bb C) (hu : C[4]? = some u) (h : Kq cTokens 4 50 39 base w u x L) : Calls Tryz.prog 38 #[.pointer (some ⟨bb, 0, none⟩)] w fun e w' => e = .returned (.tuple #[]) ∧ (∃ L', Kq cTokens 4 50 39 base w' u x L' ∧ upN mTokens L L' L.length) ∧ Bx x w w' := by
  have hmx : Tryz.prog.follows .mixedOrders = true := by kernel_rfl
  have hTT : (50 : TypeId) ≠ 39 := by decide
  obtain ⟨au, cu, eu, _⟩ := rowForm h.row
  subst eu
  have hk4 := h.k
  have hpB := h.px hB (by decide)
  have m6 : ∀ (V : World), Bx x w V → V.cell? ⟨bb, 4, none⟩ = some (.slice au L.length cu) := fun V hV => by
    rw [cell_at ((hV.block _ (lt_at hB) hpB).trans hB), hu]
  obtain ⟨N, hN⟩ : ∃ N, N = L.length := ⟨_, rfl⟩
  rw [← hN] at m6 h hk4 ⊢
  have HN : Hid (N = L.length) := hN
  clear hN hu
  go_enter Tryz.func38, Tryz.ntmps38
  go_wp2
  go_loopw [2] (fun i wz => ∃ (k : Nat) (L' : List (List tTokens)), i = .int .i64 (k : Int) ∧ k ≤ N ∧ Kq cTokens 4 50 39 base wz (.slice au N cu) x L' ∧ upN mTokens L L' k ∧ Bx x w wz) (fun i _ => N - vnat i)
  case atStart => exact ⟨0, L, rfl, Nat.zero_le _, h, upN.zero L, Bx.refl _ _⟩
  case round =>
    obtain ⟨k, L', rfl, hk, hK', hup, hbw⟩ := hrel
    have mm := m6 _ hbw
    by_cases hkl : k < N
    case neg =>
      have hki : ¬ (k : Int) < (N : Int) := by omega
      obtain rfl : k = N := by omega
      go_wp2
      go_end0
      exact ⟨rfl, ⟨L', hK', hup⟩, hbw⟩
    have hki : (k : Int) < (N : Int) := by omega
    obtain ⟨l, hl⟩ : ∃ l, L[k]? = some l := ⟨_, List.getElem?_eq_getElem (by rw [← HN.out]; exact hkl)⟩
    have hl' : L'[k]? = some l := by rw [hup.2 k l hl, if_neg (by omega)]
    obtain ⟨gu, cu', z, e1, c1, hxz, hfl, hln⟩ := hK'.cell hl'
    simp only [Value.slice.injEq] at e1
    obtain ⟨rfl, -, rfl⟩ := e1
    obtain ⟨adx, cx, rfl, hrx, -⟩ := hfl.rd
    obtain ⟨ll, hll⟩ : ∃ ll, ll = l.length := ⟨_, rfl⟩
    rw [← hll] at c1 hln hfl hxz
    have HLL : Hid (ll = l.length) := hll
    have hmk := markTokens_any k 0 ll (by omega) (by omega) (by omega) wr
    have hgx : ∀ g, (Value.slice adx ll cx).ownBlock = some g → g < wr.heap.size ∧ base ≤ g := fun g e => (hfl.lt g e).symm
    obtain ⟨sz, hsz⟩ : ∃ sz, wr.heap.size = sz := ⟨_, rfl⟩
    rw [hsz] at hgx hmk
    have HSZ : Hid (wr.heap.size = sz) := hsz
    clear hsz
    have HLK : Hid (L[k]? = some l) := hl
    have HLK' : Hid (L'[k]? = some l) := hl'
    have HXZ : Hid (x[k]? = some (.slice adx ll cx)) := hxz
    have HUP : Hid (upN mTokens L L' k) := hup
    clear hl hl' hxz hup hll
    have hmk : Calls Tryz.prog 95 #[.int .i64 (k : Int), .int .i64 0, .int .i64 (ll : Int)] wr (fun e w' => ∃ v, e = .returned v ∧ w'.ownsRow sz 50 4 v ll (fc cTokens (mkL mTokens k 0 ll)) ∧ Below sz wr w') := hmk
    go_wp2_with (go_at_call 95; (with_reducible refine hmk.mono ?_); rintro e va ⟨vm, rfl, hro, hba⟩; obtain ⟨am, cm, em, _⟩ := rowForm hro; subst em; have hba' : Below wr.heap.size wr va := (by rw [HSZ.out]; exact hba); have hKa := hK'.carry hba'; have hBa := hbw.below hba')
    go_loopw [4] (fun i wz => ∃ j : Nat, i = .int .i64 (j : Int) ∧ j ≤ ll ∧ Kq cTokens 4 50 39 base wz (.slice (some ⟨gu, 0, none⟩) N cu) x (L'.set k ((mkL mTokens k 0 ll).take j ++ l.drop j)) ∧ wz.ownsRow sz 50 4 (.slice am ll cm) ll (fc cTokens (mkL mTokens k 0 ll)) ∧ Bx x w wz) (fun i _ => ll - vnat i)
    case atStart => exact ⟨0, rfl, Nat.zero_le _, by rw [List.take_zero, List.nil_append, List.drop_zero, set_same HLK'.out]; exact hKa, hro, hBa⟩
    case round =>
      obtain ⟨j, rfl, hj, hKj, hrj, hBj⟩ := hrel
      have mj := m6 _ hBj
      by_cases hjl : j < ll
      case neg =>
        have hji : ¬ (j : Int) < (ll : Int) := by omega
        obtain rfl : j = ll := by omega
        have hfin : (mkL mTokens k 0 j).take j ++ l.drop j = mkL mTokens k 0 j := by rw [List.take_of_length_le (by rw [mkL_len]; omega), List.drop_of_length_le (by rw [← HLL.out]; omega), List.append_nil]
        rw [hfin] at hKj
        go_wp2
        go_roundw
        case rel => exact ⟨k + 1, _, by simp, by omega, hKj, by have := HUP.out.succ HLK.out; rw [← HLL.out] at this; exact this, hBj⟩
        case measure => simp [vnat]; omega
      have hji : (j : Int) < (ll : Int) := by omega
      have hy := mkL_get (mk := mTokens) k ll j hjl
      rcases own_form hrj with ⟨_, e⟩ | ⟨gm, cm', em, hgm, hgm2, _⟩
      · omega
      simp only [Value.slice.injEq] at em
      obtain ⟨rfl, -, rfl⟩ := em
      have hll : ((mkL mTokens k 0 ll).take j ++ l.drop j).length = ll := by rw [List.length_append, List.length_take, mkL_len, List.length_drop, ← HLL.out]; omega
      have hcl : (L'.set k ((mkL mTokens k 0 ll).take j ++ l.drop j))[k]? = some ((mkL mTokens k 0 ll).take j ++ l.drop j) := List.getElem?_set_self (List.getElem?_eq_some_iff.1 HLK'.out).1
      have hst : ((mkL mTokens k 0 ll).take j ++ l.drop j).set j (mTokens k j) = (mkL mTokens k 0 ll).take (j + 1) ++ l.drop (j + 1) := take_put hy (by rw [mkL_len]; exact HLL.out.symm)
      rcases hfl.pz with ⟨_, e, _⟩ | ⟨g, off, cg, ez, _⟩
      · omega
      simp only [Value.slice.injEq] at ez
      obtain ⟨rfl, -, rfl⟩ := ez
      obtain ⟨hglt, hgb⟩ := hgx g rfl
      have hgmg : gm ≠ g := by omega
      have HY : Hid ((mkL mTokens k 0 ll)[j]? = some (mTokens k j)) := hy
      clear hy
      have hspot : ∀ V, Kq cTokens 4 50 39 base V (.slice (some ⟨gu, 0, none⟩) N cu) x (L'.set k ((mkL mTokens k 0 ll).take j ++ l.drop j)) → V.cell? ⟨gu, k, none⟩ = some (.slice (some ⟨g, off, none⟩) ll cx) := fun V hV => by
        obtain ⟨gu2, cu2, z2, q1, q2, q3, _⟩ := hV.cell hcl
        simp only [Value.slice.injEq, Option.some.injEq, Addr.mk.injEq] at q1
        obtain ⟨⟨rfl, -⟩, -⟩ := q1
        rw [HXZ.out] at q3
        obtain rfl := Option.some.inj q3
        exact q2
      go_wp2
      rename_i hK
      refine wp_region_any hmx ?_
      refine wpAny_last 13 (fun i__ => ([(.pointer (some ⟨bb, 0, none⟩)), (.pointer (some ⟨bb, 0, none⟩)), (.pointer (some ⟨bb, 4, none⟩)), (.slice (some ⟨gu, 0, none⟩) N cu), (.int .i64 (k : Int)), (.pointer (some ⟨gu, k, none⟩)), (.slice (some ⟨g, off, none⟩) ll cx), (.int .i64 (j : Int)), (.slice (some ⟨gm, 0, none⟩) ll cm), (.int .i64 (j : Int)), (.pointer (some ⟨gm, 0 + j * 4, none⟩)), (eTokens (mTokens k j)), (.pointer (some ⟨g, off + j * 4, none⟩)), undef] : List Value).getD i__ undef) (fun V => Kq cTokens 4 50 39 base V (.slice (some ⟨gu, 0, none⟩) N cu) x (L'.set k ((mkL mTokens k 0 ll).take j ++ l.drop j)) ∧ V.ownsRow sz 50 4 (.slice (some ⟨gm, 0, none⟩) ll cm) ll (fc cTokens (mkL mTokens k 0 ll)) ∧ Bx x w V) (fun V => Kq cTokens 4 50 39 base V (.slice (some ⟨gu, 0, none⟩) N cu) x (L'.set k ((mkL mTokens k 0 ll).take (j + 1) ++ l.drop (j + 1))) ∧ V.ownsRow sz 50 4 (.slice (some ⟨gm, 0, none⟩) ll cm) ll (fc cTokens (mkL mTokens k 0 ll)) ∧ Bx x w V) rfl (by kernel_rfl) (by kernel_rfl) (⟨hKj.carry (Below.refl _ _).drew, row_below hrj (Below.refl _ _).drew, hBj.below (Below.refl _ _).drew⟩) ?_ ?_  ?_
      · refine (stepsFrom_cons ?_ (stepsFrom_cons ?_ (stepsFrom_cons ?_ (stepsFrom_cons ?_ (stepsFrom_cons ?_ (stepsFrom_cons ?_ (stepsFrom_cons ?_ (stepsFrom_cons ?_ (stepsFrom_cons ?_ (stepsFrom_cons ?_ (stepsFrom_cons ?_ (stepsFrom_cons ?_ (stepsFrom_cons ?_ trivial)))))))))))))
        · exact step_move rfl trivial _ rfl (by kernel_rfl)
        · exact step_nilCheck rfl trivial _ _ _ rfl rfl rfl
        · exact step_fieldAddr rfl trivial _ _ _ _ rfl rfl (fun v hw => fldTokens v _)
        · exact step_load rfl trivial _ _ _ rfl rfl (fun v hw => lddTokens (m6 _ hw.2.2))
        · exact step_move rfl trivial _ rfl (by kernel_rfl)
        · exact step_indexAddr rfl trivial _ _ _ _ _ rfl rfl rfl (fun v hw => ixxTokens gu _ _ k hkl v)
        · exact step_load rfl trivial _ _ _ rfl rfl (fun v hw => ldsTokens (hspot _ hw.1))
        · exact step_move rfl trivial _ rfl (by kernel_rfl)
        · exact step_move rfl trivial _ rfl (by kernel_rfl)
        · exact step_move rfl trivial _ rfl (by kernel_rfl)
        · exact step_indexAddr rfl trivial _ _ _ _ _ rfl rfl rfl (fun v hw => ixTokens gm 0 ll cm j hjl v)
        · exact step_load rfl trivial _ _ _ rfl rfl (fun v hw => ldTokens (FA.own hw.2.1) HY.out)
        · exact step_indexAddr rfl trivial _ _ _ _ _ rfl rfl rfl (fun v hw => ixTokens g off ll cx j hjl v)
      · intro o ho
        cases ho
        exact step_store rfl trivial rfl _ _ _ _ _ rfl rfl rfl (fun V hw => by obtain ⟨z2, q1, q2, _⟩ := hw.1.ks k _ hcl; rw [HXZ.out] at q1; obtain rfl := Option.some.inj q1; rw [hll] at q2; obtain ⟨V', r1, r2, rk, r3⟩ := putqTokens q2 hll.symm hjl (mTokens k j); refine ⟨V', r1, ?_, row_off hw.2.1 r3 (fun b e e2 => by obtain rfl := Option.some.inj e; simp only [Value.ownBlock, Option.some.injEq] at e2; exact hgmg e2), hw.2.2.grown r3 (fun q e => by obtain rfl := Option.some.inj e; exact .inl (Px.no HXZ.out rfl))⟩; have hk9 := hw.1.turn hTT hcl HXZ.out rfl (by rw [List.length_set, hll]; exact r2) (List.length_set ..) rk r3; rw [List.set_set, hst] at hk9; exact hk9)
      intro W hW
      first | refine hK _ _ ?_ | refine (‹∀ (a : Act) (w : World), Code.wp Tryz.prog _ _ a w → _›) _ _ ?_ | skip
      simp only [finL, List.getD_cons_zero, List.getD_cons_succ, Nat.zero_add, Nat.reduceAdd, List.setIfInBounds_toArray, List.set_cons_zero, List.set_cons_succ]
      clear hK
      go_wp2
      go_roundw
      case rel => exact ⟨j + 1, by simp, by omega, hW.1, hW.2.1, hW.2.2⟩
      case measure => simp [vnat]; omega
theorem bslTokens (W : World) (a : Option Addr) (n c : Nat) : (Instr.buildSlice 27 1 #[(0, .slice a n c)]).run Tryz.prog W = .ok (.slice (some ⟨W.heap.size, 0, none⟩) 1 1) (W.alloc (.cells #[.slice a n c] 39)) := by go_simp
set_option maxHeartbeats 8000000 in
set_option maxRecDepth 100000 in
theorem growTokens_any {base bb : Nat} {w : World} {u : Value} {C : Array Value} {x : List Value} {L : List (List tTokens)} (hB : Bb 38 w bb C) (hu : C[4]? = some u) (h : Kq cTokens 4 50 39 base w u x L) (hm : Mkd mTokens L) (hbz : base ≤ w.heap.size) : Calls Tryz.prog 50 #[.pointer (some ⟨bb, 0, none⟩)] w fun e w' => ∃ uo, e = .returned uo ∧ ∃ O, w'.ownsRow w.heap.size 39 1 uo L.length O ∧ Gkq mTokens cTokens 4 50 base w.heap.size x w' O ∧ Kq cTokens 4 50 39 base w' u x L ∧ Bx x w w' := by
  have hTT : (50 : TypeId) ≠ 39 := by decide
  obtain ⟨ic, zc, hic, hz0, hz1, hz2, hz3⟩ := kiTokens.iT
  obtain ⟨is, his, hs0, hs1, hs2⟩ := kiTokens.iS
  obtain ⟨au, cu, eu, _⟩ := rowForm h.row
  subst eu
  have hk4 := h.k
  have hxl : ∀ (i : Nat) (z' : Value) (b : Nat), x[i]? = some z' → z'.ownBlock = some b → b < w.heap.size := fun i z' b hz hb => (h.ltx hz hb).2
  have hul : ∀ b, (Value.slice au L.length cu).ownBlock = some b → b < w.heap.size := fun b hb => (row_lt h.row b hb).2
  have hpB := h.px hB (by decide)
  have m6 : ∀ (V : World), Bx x w V → V.cell? ⟨bb, 4, none⟩ = some (.slice au L.length cu) := fun V hV => by
    rw [cell_at ((hV.block _ (lt_at hB) hpB).trans hB), hu]
  obtain ⟨s0, hs⟩ : ∃ s0, w.heap.size = s0 := ⟨_, rfl⟩
  rw [hs] at hxl hul hbz ⊢
  have hs0w : s0 ≤ w.heap.size := by omega
  have hsw0 : w.heap.size ≤ s0 := by omega
  clear hs
  obtain ⟨NN, hN⟩ : ∃ N, N = L.length := ⟨_, rfl⟩
  rw [← hN] at m6 h hk4 hul ⊢
  have HN : Hid (NN = L.length) := hN
  clear hN hu
  go_enter Tryz.func50, Tryz.ntmps50
  go_wp2
  go_loopw [3, 4] (fun o i wz => ∃ (k : Nat) (O : List Value), i = .int .i64 (k : Int) ∧ k ≤ NN ∧ wz.ownsRow s0 39 1 o k O ∧ Gkq mTokens cTokens 4 50 base s0 x wz O ∧ Kq cTokens 4 50 39 base wz (.slice au NN cu) x L ∧ Bx x w wz ∧ s0 ≤ wz.heap.size) (fun _ i _ => NN - vnat i)
  case atStart => exact ⟨0, [], rfl, Nat.zero_le _, World.ownsRow_nil _ _ _ _, fun i z hz => (by cases hz), h, Bx.refl _ _, hs0w⟩
  case round =>
    obtain ⟨k, O, rfl, hk, hro, hgk, hK', hbw, hsw⟩ := hrel
    obtain ⟨ao, co, eo, _⟩ := rowForm hro
    subst eo
    have mm := m6 _ hbw
    have hOl : O.length = k := by have := hro.1; omega
    by_cases hkl : k < NN
    case neg =>
      have hki : ¬ (k : Int) < (NN : Int) := by omega
      obtain rfl : k = NN := by omega
      go_wp2
      go_ret
      exact ⟨_, rfl, O, hro, hgk, hK', hbw⟩
    have hki : (k : Int) < (NN : Int) := by omega
    obtain ⟨l, hl⟩ : ∃ l, L[k]? = some l := ⟨_, List.getElem?_eq_getElem (by rw [← HN.out]; exact hkl)⟩
    obtain ⟨gu, cu', z, e1, c1, hxz, hfl, hln⟩ := hK'.cell hl
    simp only [Value.slice.injEq] at e1
    obtain ⟨rfl, -, rfl⟩ := e1
    have hml := hm k l hl
    obtain ⟨N, hN⟩ : ∃ N, l.length = N := ⟨_, rfl⟩
    rw [hN] at hml hln hfl
    rw [hml] at hl hfl
    obtain ⟨adx, cx, rfl, -, -⟩ := hfl.rd
    have hGs : Gsq mTokens cTokens 4 50 39 base s0 wr.heap.size N k (.slice (some ⟨gu, 0, none⟩) NN cu) (.slice adx N cx) (.slice ao k co) x O L w wr (.slice adx N cx) N := ⟨hfl, .inr (.inl ⟨rfl, rfl⟩), hK', hgk, hro, hbw, Nat.le_refl _, Nat.le_refl _, hsw0⟩
    have hGc : Gc mTokens base s0 wr.heap.size N k (.slice (some ⟨gu, 0, none⟩) NN cu) (.slice adx N cx) (.slice ao k co) x O L := ⟨hl, hxz, hbz, hsw, hxl, hul, fun i z' b hz hb => (by
      obtain ⟨n, q1, _⟩ := hgk i z' hz
      exact (row_lt q1 b hb).2), fun b hb => (row_lt hro b hb).2, hOl⟩
    obtain ⟨sz, hsz⟩ : ∃ sz, wr.heap.size = sz := ⟨_, rfl⟩
    rw [hsz] at hGs hGc
    have hsz2 : s0 ≤ sz := by omega
    clear hfl hgk hro hl hml hm hsz hK' hbw hsw hxz
    go_wp2
    clear mm c1
    go_loopw [5, 6] (fun a i wz => ∃ n : Nat, i = .int .i64 (n : Int) ∧ n ≤ 16 ∧ Gsq mTokens cTokens 4 50 39 base s0 sz N k (.slice (some ⟨gu, 0, none⟩) NN cu) (.slice adx N cx) (.slice ao k co) x O L w wz a (N + n)) (fun _ i _ => 16 - vnat i)
    case atStart => exact ⟨0, rfl, by omega, hGs⟩
    case round =>
      clear hGs
      obtain ⟨n, rfl, hn, hG⟩ := hrel
      obtain ⟨aa, ca, ea, _⟩ := hG.row.rd
      subst ea
      have hbz2 : base ≤ wr.heap.size := by have := hG.sz; omega
      by_cases hn16 : n < 16
      · have hni : (n : Int) < 16 := by omega
        obtain ⟨M, hM⟩ : ∃ M, N + n = M := ⟨_, rfl⟩
        have HM : Hid (N + n = M) := hM
        rw [hM] at hG ⊢
        have hM2 : M ≤ 1000016 := by omega
        clear hM
        have hmk : Calls Tryz.prog 95 #[.int .i64 (k : Int), .int .i64 (M : Int), .int .i64 1] wr (fun e w' => ∃ v, e = .returned v ∧ w'.ownsRow wr.heap.size 50 4 v 1 (fc cTokens (mkL mTokens k M 1)) ∧ Below wr.heap.size wr w') := markTokens_any k M 1 (by omega) (by omega) (by omega) wr
        go_wp2_with (first | (go_at_call 95; (with_reducible refine hmk.mono ?_); rintro e va ⟨vm, rfl, hrm, hba⟩; obtain ⟨gm, cm, em⟩ := rowSucc (n := 0) hrm; subst em; have hGa := hG.carry hba; have hsa := hba.size) | (at_builtin; refine wpList_append_pq _ rfl _ _ 39 rfl base 50 ic _ 4 40 Tryz.underlying39 hic hz0 hz1 hz2 hz3 (by decide) _ M (fc cTokens (mkL mTokens k 0 M)) rfl hGa.row ⟨gm, 0, none⟩ 1 cm (fc cTokens (mkL mTokens k M 1)) rfl (by rw [fc_len hsTokens, mkL_len]) (FA.own hrm).src (fc_one h1Tokens _) (by omega) (by unfold maxLen; omega) (by omega) (by omega) ?_; intro v' w2 hown' htwo; have hG2 := hGa.app hsTokens (by decide) hTT hGc (by omega) hown' htwo))
        go_roundw
        case rel => exact ⟨n + 1, by simp, by omega, by have := HM.out; rw [show N + (n + 1) = M + 1 by omega]; exact hG2⟩
        case measure => simp [vnat]; omega
      · obtain rfl : n = 16 := by omega
        have hni : ¬ ((16 : Nat) : Int) < 16 := by omega
        obtain ⟨M, hM⟩ : ∃ M, N + 16 = M := ⟨_, rfl⟩
        rw [hM] at hG ⊢
        have hM2 : M ≤ 1000016 := by omega
        clear hM
        have hbs := bslTokens
        have hmk : Calls Tryz.prog 95 #[.int .i64 (k : Int), .int .i64 (M : Int), .int .i64 80] wr (fun e w' => ∃ v, e = .returned v ∧ w'.ownsRow wr.heap.size 50 4 v 80 (fc cTokens (mkL mTokens k M 80)) ∧ Below wr.heap.size wr w') := markTokens_any k M 80 (by omega) (by omega) (by omega) wr
        go_wp2_with (first | (go_at_call 95; (with_reducible refine hmk.mono ?_); rintro e va ⟨vm, rfl, hrm, hba⟩; obtain ⟨gm, cm, em⟩ := rowSucc (n := 79) hrm; subst em; have hGa := hG.carry hba; have hsa := hba.size) | (at_builtin; refine wpList_append_pq _ rfl _ _ 39 rfl base 50 ic _ 4 40 Tryz.underlying39 hic hz0 hz1 hz2 hz3 (by decide) _ M (fc cTokens (mkL mTokens k 0 M)) rfl hGa.row ⟨gm, 0, none⟩ 80 cm (fc cTokens (mkL mTokens k M 80)) rfl (by rw [fc_len hsTokens, mkL_len]) (FA.own hrm).src (fc_one h1Tokens _) (by omega) (by unfold maxLen; omega) (by omega) (by omega) ?_; intro v' w2 hown' htwo; obtain ⟨a', c', e', _⟩ := rowForm hown'; subst e'; have hG2 := hGa.app hsTokens (by decide) hTT hGc (by omega) hown' htwo; have hz2' : sz ≤ w2.heap.size := hG2.sz; have hG3 := hG2.carry (al1 w2 (.cells #[.slice a' (M + 80) c'] 39))) | (at_builtin; refine wpList_append_own _ rfl _ _ 27 rfl s0 39 is _ 1 24 Tryz.underlying27 his hs0 hs1 hs2 rfl (by decide) _ k O rfl hG3.ro ⟨w2.heap.size, 0, none⟩ 1 1 [_] rfl rfl (newTokens _ #[_] _) (by simp [Value.oneCell']) (by unfold maxLen; omega) (by omega) (by simp; omega) ?_; intro v2 w4 hown4 hgrow4 _))
        go_roundw
        case rel =>
          have hty : ∀ {z' : Value} {n : Nat} {ys : List Value} {b : Nat}, (w2.alloc (.cells #[.slice a' (M + 80) c'] 39)).ownsRow base 50 4 z' n ys → (Value.slice ao k co).ownBlock = some b → z'.ownBlock ≠ some b := fun hr e e2 => by
            obtain ⟨_, c5, q5⟩ := rowBlk hr _ e2
            exact row_type hG3.ro q5 (by decide) e
          refine ⟨k + 1, O ++ [.slice a' (M + 80) c'], by simp, by omega, hown4, ?_, hG3.kn.off hgrow4 (fun b e e2 => ?_) (fun b e i z' hz e2 => ?_), hG3.bl.grown hgrow4 (fun q e => .inr (by have := (row_lt hG3.ro q e).1; omega)), by have := hgrow4.size; simp at this; omega⟩
          · intro i z' hz
            rcases Nat.lt_or_ge i k with q | q
            · rw [List.getElem?_append_left (by omega)] at hz
              refine (hG3.gk.off hgrow4 (fun b e i2 z2 hz2 => ?_)) i z' hz
              obtain ⟨n2, r2, _⟩ := hG3.gk i2 z2 hz2
              exact hty r2 e
            · have hik : i = k := by
                have := (List.getElem?_eq_some_iff.1 hz).1
                simp at this
                omega
              subst hik
              rw [List.getElem?_append_right (by omega), hOl, Nat.sub_self] at hz
              cases hz
              rcases hG3.rel with ⟨g, cap, q1, q2, q3⟩ | ⟨_, q2⟩ | q2
              · refine ⟨M + 80, row_off q3 hgrow4 (fun b e => hty q3 e), by omega, .inl ⟨g, N, cap, by rw [← q1]; exact hGc.xk, q2, ?_⟩⟩
                rw [q2] at q3
                obtain ⟨_, _, _, q5, _⟩ := own_sz q3
                omega
              · have q4 := hG.nm
                exact absurd q2 (by omega)
              · have q3 := row_base q2 (show base ≤ sz by omega)
                exact ⟨M + 80, row_off q3 hgrow4 (fun b e => hty q3 e), by omega, .inr (fun b e => by have := (row_lt q2 b e).1; omega)⟩
          · have := hul b e2
            have := (row_lt hG3.ro b e).1
            omega
          · have := hxl i z' b hz e2
            have := (row_lt hG3.ro b e).1
            omega
        case measure => simp [vnat]; omega
theorem stcTokens {W : World} {bb n c : Nat} {a : Option Addr} {C : Array Value} {v0 : Value} (h : W.heap[bb]? = some (.cells C 38 (0, 0))) (hi : C[5]? = some v0) : (Instr.storeAt 27 (.pointer (some ⟨bb, 5, none⟩)) (.slice a n c)).run Tryz.prog W = .ok () (W.setCell ⟨bb, 5, none⟩ (.slice a n c)) := by
  have c0 : W.cell? ⟨bb, 5, none⟩ = some v0 := (cell_at h 5).trans hi
  have z0 := thaw_at h 5
  go_simp
set_option maxHeartbeats 4000000 in
set_option maxRecDepth 100000 in
theorem keepTokens_any {w : World} {base bb : Nat} {u v z : Value} {C : Array Value} {x y : List Value} {L : List (List tTokens)} {l : List tTokens} (hB : Bb 38 w bb C) (hu : C[4]? = some u) (hv : C[5]? = some v) (h : Kkq cTokens 4 50 39 base w u v x y L) (hbz : base ≤ w.heap.size) (hz : Pq base 50 4 z l.length (fc cTokens l) w) (hl : l.length ≤ 1000000) (hn : ∀ (i : Nat) (z' : Value), x[i]? = some z' → Az 4 z' z) : Calls Tryz.prog 11 #[.pointer (some ⟨bb, 0, none⟩), z] w fun e w' => e = .returned (.tuple #[]) ∧ Kepq2 cTokens 4 50 39 38 4 base bb C u v z x y w w' := by
  have hmx : Tryz.prog.follows .mixedOrders = true := by kernel_rfl
  obtain ⟨ic, hic, hz0, hz1, hz2⟩ := kiTokens.iS
  have h6 := h.kl.row
  have h7 := h.cr
  have hap := h.uv
  have hsz : 5 < C.size := (Array.getElem?_eq_some_iff.1 hv).1
  obtain ⟨k, hk⟩ : ∃ k, k = L.length := ⟨_, rfl⟩
  rw [← hk] at h6 h7
  have HK : Hid (k = L.length) := hk
  have hk400 : k ≤ 400 := by rw [hk]; exact h.kl.k
  clear hk
  obtain ⟨a6, c6, rfl, _⟩ := rowForm h6
  obtain ⟨a7, c7, rfl, _⟩ := rowForm h7
  obtain ⟨n, hnn⟩ : ∃ n, n = l.length := ⟨_, rfl⟩
  have HN : Hid (n = l.length) := hnn
  have hzz := hz
  rw [← hnn] at hzz
  clear hnn
  obtain ⟨ad, c, rfl, hrd0, hc⟩ := hzz.rd
  have HU : Hid (C[4]? = some (.slice a6 k c6)) := hu
  have HV : Hid (C[5]? = some (.slice a7 k c7)) := hv
  have m6 : w.cell? ⟨bb, 4, none⟩ = some (.slice a6 k c6) := (cell_at hB 4).trans hu
  have HKK : Hid (Kkq cTokens 4 50 39 base w (.slice a6 k c6) (.slice a7 k c7) x y L) := h
  have HNO : Hid (∀ (i : Nat) (z' : Value), x[i]? = some z' → Az 4 z' (.slice ad n c)) := hn
  have HZ : Hid (Pq base 50 4 (.slice ad n c) n (fc cTokens l) w) := hzz
  clear hu hv hn h hz hzz
  by_cases h4 : k < 400
  · have hki : (k : Int) < 400 := by omega
    have z6 := thaw_at hB 4
    have HKB : Hid (Bb 38 w bb C) := hB
    have hlb := lt_at hB
    obtain ⟨XX, hXX⟩ : ∃ XX, x ++ [Value.slice ad n c] = XX := ⟨_, rfl⟩
    have HXX : Hid (x ++ [Value.slice ad n c] = XX) := hXX
    have HRD : Hid (RdF w ad (fc cTokens l)) := hrd0
    clear hXX hB hrd0
    go_enter Tryz.func11, Tryz.ntmps11
    go_wp2_with (at_builtin; refine wpList_append_own_at _ rfl _ _ 27 rfl base 39 ic _ 1 24 Tryz.underlying27 hic hz0 hz1 hz2 rfl (by decide) _ _ _ rfl (h6.alloc _) ⟨w.heap.size, 0, none⟩ 1 1 [_] rfl rfl (newTokens _ #[_] _) (by simp [Value.oneCell']) (by unfold maxLen; omega) (by omega) (by simp; omega) ?_; intro v' w2 hown' hgrow _ hob; obtain ⟨g', cap', rfl⟩ := rowSucc hown'; have hkb2 : Bb 38 w2 bb C := (hgrow.block _ (by simp; omega) (fun e => bb_row HKB.out h6 (by decide) e.symm)).trans (old_at HKB.out); have m62 : w2.cell? ⟨bb, 4, none⟩ = some (.slice a6 k c6) := (cell_at hkb2 4).trans HU.out; have z62 := thaw_at hkb2 4)
    have hkb3 := heap_setCell_same _ _ 4 _ _ (.slice (some ⟨g', 0, none⟩) (k + 1) cap') hkb2
    rw [put2_v HV.out] at hkb3
    have hal1 := al1 w (.cells #[.slice ad n c] 39)
    have h72 : w2.ownsRow base 39 1 (.slice a7 k c7) k y := row_off (h7.alloc _) hgrow (fun b hb hb2 => hap b hb hb2)
    have hkp : Fk bb (.slice a6 k c6) (.slice a7 k c7) w (w2.setCell ⟨bb, 4, none⟩ (.slice (some ⟨g', 0, none⟩) (k + 1) cap')) := (((Fk.refl _ _ _ _).below hal1).grown hgrow (fun q e => .inr (.inl e))).set
    have habide : ∀ (q : Nat) (cur : Array Value), w.heap[q]? = some (.cells cur 50 (0, 0)) → (w2.setCell ⟨bb, 4, none⟩ (.slice (some ⟨g', 0, none⟩) (k + 1) cap')).heap[q]? = w.heap[q]? := fun q cur hq => hkp.block q (lt_at hq) (fun e => by
      subst e
      have := HKB.out.symm.trans hq
      simp only [Option.some.injEq, Obj.cells.injEq] at this
      exact absurd this.2.1 (by decide)) (row_type h6 hq (by decide)) (row_type h7 hq (by decide))
    have hrd : RdF (w2.setCell ⟨bb, 4, none⟩ (.slice (some ⟨g', 0, none⟩) (k + 1) cap')) ad (fc cTokens l) := by
      intro hne
      obtain ⟨b, off, e, hb, hat⟩ := HRD.out hne
      have hbk : (Value.slice ad n c).ownBlock = some b := by rw [e]; rfl
      obtain ⟨cur, ho⟩ := HZ.out.ty b hbk
      exact ⟨b, off, e, Nat.lt_of_lt_of_le hb hkp.size, hat.of (habide b cur ho)⟩
    have hlb7 : ∀ q, (Value.slice a7 k c7).ownBlock = some q → q < w.heap.size := fun q hq => (row_lt h7 q hq).2
    have hownX := hown'
    rw [HXX.out] at hownX
    have hj0 : JZ2 50 39 38 4 4 base bb k n ad (fc cTokens l) XX y (.slice (some ⟨g', 0, none⟩) (k + 1) cap') (.slice a7 k c7) (.slice a6 k c6) C w (undef, 0, undef) false false false false (w2.setCell ⟨bb, 4, none⟩ (.slice (some ⟨g', 0, none⟩) (k + 1) cap')) := ⟨⟨hkb3, row_set hownX (bb_row hkb2 hownX (by decide)) _, row_set h72 (bb_row hkb2 h72 (by decide)) _, fun q hq hq2 => (by
      rcases hob with e | e
      · exact hap q (e.symm.trans hq) hq2
      · have h8 := hlb7 q hq2
        rw [e] at hq
        simp at hq
        omega), (fun e => by cases e), (fun e => by cases e), (fun e => by cases e), fun _ => hrd, hkp, by have := hkp.size; omega⟩, (fun e => by cases e)⟩
    have HOB : Hid (∀ q, (Value.slice (some ⟨g', 0, none⟩) (k + 1) cap').ownBlock = some q → (Value.slice a6 k c6).ownBlock = some q ∨ w.heap.size ≤ q) := fun q hq => (by
      rcases hob with e | e
      · exact .inl (e.symm.trans hq)
      · rw [e] at hq
        simp at hq
        exact .inr (by omega))
    have HL : Hid (l.length ≤ 1000000) := hl
    have HC : Hid (ad = none → c = 0) := hc
    clear hkb2 hkb3 h72 hrd hown' hgrow hob m6 z6 m62 z62 h6 h7 hap hkp habide hl hc
    refine wp_region_any hmx ?_
    refine wpAny_tabG (G := (Value × Nat × Value)) (fun g i__ => ([(.pointer (some ⟨bb, 0, none⟩)), (.pointer (some ⟨bb, 0, none⟩)), (.pointer (some ⟨bb, 0, none⟩)), (.pointer (some ⟨bb, 5, none⟩)), (.slice a7 k c7), (.slice ad n c), g.1, (.slice (some ⟨g.2.1, 0, none⟩) 1 1), g.2.2, (.pointer (some ⟨bb, 0, none⟩)), (.pointer (some ⟨bb, 5, none⟩)), undef] : List Value).getD i__ undef) (fun g d W => JZ2 50 39 38 4 4 base bb k n ad (fc cTokens l) XX y (.slice (some ⟨g', 0, none⟩) (k + 1) cap') (.slice a7 k c7) (.slice a6 k c6) C w g (d 6) (d 7) (d 8) (d 11) W) (by kernel_rfl) ((undef, 0, undef)) (show JZ2 50 39 38 4 4 base bb k n ad (fc cTokens l) XX y (.slice (some ⟨g', 0, none⟩) (k + 1) cap') (.slice a7 k c7) (.slice a6 k c6) C w (undef, 0, undef) false false false false _ from ⟨⟨hj0.kb, hj0.r6, hj0.r7, hj0.ap, hj0.cp, hj0.bl, hj0.fm, hj0.rd, hj0.kp.below (Below.refl _ _).drew, hj0.bz⟩, fun e => (by cases e)⟩) ?step2 ?fin2
    case step2 =>
      intro i o ho
      have hi : i < 12 := getElem?_lt ho
      match i, hi, ho with
      | 0, _, ho =>
        cases ho
        refine stepG_of (fun g d hdep => ?_)
        exact step_move rfl trivial _ rfl (by kernel_rfl)
      | 1, _, ho =>
        cases ho
        refine stepG_of (fun g d hdep => ?_)
        exact step_move rfl trivial _ rfl (by kernel_rfl)
      | 2, _, ho =>
        cases ho
        refine stepG_of (fun g d hdep => ?_)
        exact step_nilCheck rfl trivial _ _ _ rfl rfl rfl
      | 3, _, ho =>
        cases ho
        refine stepG_of (fun g d hdep => ?_)
        exact step_fieldAddr rfl trivial _ _ _ _ rfl rfl (fun w hw => flcTokens w _)
      | 4, _, ho =>
        cases ho
        exact stepG_ofC (fun g d hun hdep hcl => step_load rfl trivial _ _ _ rfl rfl (fun w hw => lddTokens (by have h11 : d 11 = false := (by cases h : d 11 with | false => rfl | true => exact absurd (hcl 11 _ rfl h 4 (by kernel_rfl)) (by rw [hun]; simp)); have := hw.kb; rw [h11] at this; exact (cell_at this 5).trans (put2_1 hsz _ _))))
      | 5, _, ho =>
        cases ho
        refine stepG_of (fun g d hdep => ?_)
        exact step_move rfl trivial _ rfl (by kernel_rfl)
      | 6, _, ho =>
        cases ho
        exact stepG_append rfl rfl _ _ _ (fun _ => .slice none 0 0) (fun _ => .slice ad n c) rfl (fun g => by kernel_rfl) (fun g => by kernel_rfl) (fun g d W hJ hun hdep hcl => by have h7 : d 7 = false := (by cases h : d 7 with | false => rfl | true => exact absurd (hcl 7 _ rfl h 6 (by kernel_rfl)) (by rw [hun]; simp)); have hJ' := hJ; rw [hun, h7] at hJ'; have hcp := cp_any kiTokens hsTokens h1Tokens (cc := c) 39 (hJ'.rd rfl) HL.out HC.out; rw [← HN.out] at hcp; obtain ⟨v', W', hr, hv, hro, hb⟩ := hcp; refine ⟨(v', g.2), W', hr, (fun j hj => match j, hj with | 6, hj => (by rw [hj] at hun; cases hun)  | 0, _ => rfl | 1, _ => rfl | 2, _ => rfl | 3, _ => rfl | 4, _ => rfl | 5, _ => rfl | 7, _ => rfl | 8, _ => rfl | 9, _ => rfl | 10, _ => rfl | 11, _ => rfl | _ + 12, _ => rfl), ?_⟩; have h8 : d 8 = false := (by cases h : d 8 with | false => rfl | true => exact absurd (hcl 8 _ rfl h 6 (by kernel_rfl)) (by rw [hun]; simp)); show JZ2 50 39 38 4 4 base bb k n ad (fc cTokens l) XX y _ _ _ C w _ true (d 7) (d 8) (d 11) W'; rw [h7, h8]; rw [h8] at hJ'; exact hJ'.copy hb hv hro)
      | 7, _, ho =>
        cases ho
        exact stepG_buildG rfl rfl _ _ (fun g => g.1) rfl (fun g => by kernel_rfl) (fun g d W hJ hun hdep hcl => by have h6 : d 6 = true := hdep 6 (by kernel_rfl); have hJ' := hJ; rw [h6] at hJ'; obtain ⟨⟨a', c', e1⟩, _⟩ := hJ'.cp rfl; refine ⟨(g.1, W.heap.size, g.2.2), W.alloc (.cells #[g.1] 39), (by rw [e1]; exact bslTokens _ _ _ _), (fun j hj => match j, hj with | 7, hj => (by rw [hj] at hun; cases hun)  | 0, _ => rfl | 1, _ => rfl | 2, _ => rfl | 3, _ => rfl | 4, _ => rfl | 5, _ => rfl | 6, _ => rfl | 8, _ => rfl | 9, _ => rfl | 10, _ => rfl | 11, _ => rfl | _ + 12, _ => rfl), ?_⟩; show JZ2 50 39 38 4 4 base bb k n ad (fc cTokens l) XX y _ _ _ C w _ (d 6) true (d 8) (d 11) _; rw [h6]; exact hJ'.build)
      | 8, _, ho =>
        cases ho
        exact stepG_append rfl rfl _ _ _ (fun _ => .slice a7 k c7) (fun g => .slice (some ⟨g.2.1, 0, none⟩) 1 1) rfl (fun g => by kernel_rfl) (fun g => by kernel_rfl) (fun g d W hJ hun hdep hcl => by have h7 : d 7 = true := hdep 7 (by kernel_rfl); have h6 : d 6 = true := hdep 6 (by kernel_rfl); have h11 : d 11 = false := (by cases h : d 11 with | false => rfl | true => exact absurd (hcl 11 _ rfl h 8 (by kernel_rfl)) (by rw [hun]; simp)); have hJ' := hJ; rw [h6, h7, hun, h11] at hJ'; obtain ⟨x, V, hr, hA⟩ := hJ'.app kiTokens h4 27; refine ⟨(g.1, g.2.1, x), V, hr, (fun j hj => match j, hj with | 8, hj => (by rw [hj] at hun; cases hun)  | 0, _ => rfl | 1, _ => rfl | 2, _ => rfl | 3, _ => rfl | 4, _ => rfl | 5, _ => rfl | 6, _ => rfl | 7, _ => rfl | 9, _ => rfl | 10, _ => rfl | 11, _ => rfl | _ + 12, _ => rfl), ?_⟩; show JZ2 50 39 38 4 4 base bb k n ad (fc cTokens l) XX y _ _ _ C w _ (d 6) (d 7) true (d 11) V; rw [h6, h7, h11]; exact hA)
      | 9, _, ho =>
        cases ho
        refine stepG_of (fun g d hdep => ?_)
        exact step_nilCheck rfl trivial _ _ _ rfl rfl rfl
      | 10, _, ho =>
        cases ho
        refine stepG_of (fun g d hdep => ?_)
        exact step_fieldAddr rfl trivial _ _ _ _ rfl rfl (fun w hw => flcTokens w _)
      | 11, _, ho =>
        cases ho
        refine stepG_of (fun g d hdep => ?_)
        exact step_store rfl trivial rfl _ _ _ _ _ rfl rfl rfl (fun W hw => by have h6 : d 6 = true := hdep 6 (by kernel_rfl); have h7 : d 7 = true := hdep 7 (by kernel_rfl); have h8 : d 8 = true := hdep 8 (by kernel_rfl); have hw' := hw; rw [h6, h7, h8] at hw'; obtain ⟨V, hr, hA⟩ := hw'.store kiTokens (fun a n c => stcTokens hw'.kb (put2_1 hsz _ _)); refine ⟨V, hr, ?_⟩; show JZ2 50 39 38 4 4 base bb k n ad (fc cTokens l) XX y _ _ _ C w _ (d 6) (d 7) (d 8) true V; rw [h6, h7, h8]; exact hA)
    intro g d W hall hW
    first | refine hK _ _ ?_ | refine (‹∀ (a : Act) (w : World), Code.wp Tryz.prog _ _ a w → _›) _ _ ?_ | skip
    simp only [finL, List.getD_cons_zero, List.getD_cons_succ, Nat.zero_add, Nat.reduceAdd, List.setIfInBounds_toArray, List.set_cons_zero, List.set_cons_succ]
    rw [hall 6 (by decide), hall 7 (by decide), hall 8 (by decide), hall 11 (by decide)] at hW
    have HJ : Hid (JZ2 50 39 38 4 4 base bb k n ad (fc cTokens l) XX y (.slice (some ⟨g', 0, none⟩) (k + 1) cap') (.slice a7 k c7) (.slice a6 k c6) C w g true true true true W) := hW
    clear hW hall hj0 hownX
    go_wp2
    go_end0
    have hW := HJ.out
    have h6 := HKK.out.kl.row
    have h7 := HKK.out.cr
    rw [← HK.out] at h6 h7
    have hab : ∀ (q : Nat) (cur : Array Value), w.heap[q]? = some (.cells cur 50 (0, 0)) → W.heap[q]? = w.heap[q]? := fun q cur hq => hW.kp.block q (lt_at hq) (fun e => by
      subst e
      have := HKB.out.symm.trans hq
      simp only [Option.some.injEq, Obj.cells.injEq] at this
      exact absurd this.2.1 (by decide)) (row_type h6 hq (by decide)) (row_type h7 hq (by decide))
    have e6 := hW.r6
    have e7 := hW.r7
    simp only [if_true] at e7
    rw [← HXX.out, HK.out] at e6
    rw [HK.out] at e7
    have hnz := HZ.out
    have hcz := (hW.cp rfl).2
    rw [HN.out] at hnz hcz e6
    refine ⟨rfl, _, g.2.2, x ++ [.slice ad l.length c], y ++ [g.1], L ++ [l], hW.kb, HKK.out.app (V := W) hab (hnz.at (fun q hq => ?_)) (row_base hcz hbz) HL.out (by rw [← HK.out]; exact h4) (by rw [← HN.out]; exact HNO.out) (by rw [HK.out]; exact e6) e7 hW.ap, hW.kp, ⟨fun i z' hz' => ?_, HOB.out, hW.fr rfl, fun i z' hz' => ?_⟩⟩
    · obtain ⟨cur, ho⟩ := hnz.ty q hq
      exact hab q cur ho
    · rcases get_snoc _ _ _ _ hz' with ⟨_, q2⟩ | ⟨_, q2⟩
      · exact .inr ⟨i, q2⟩
      · exact .inl (by rw [q2, HN.out])
    · rcases get_snoc _ _ _ _ hz' with ⟨_, q2⟩ | ⟨_, q2⟩
      · exact .inl ⟨i, q2⟩
      · exact .inr (fun q hq => by
          rw [q2] at hq
          exact (row_lt (hW.cp rfl).2 q hq).1)
  · have hki : ¬ (k : Int) < 400 := by omega
    have HBB : Hid (Bb 38 w bb C) := hB
    clear h6 h7 hB hrd0 hap
    go_enter Tryz.func11, Tryz.ntmps11
    go_wp2
    go_end0
    refine ⟨rfl, _, _, x, y, L, ?_, HKK.out, Fk.refl _ _ _ _, ⟨fun i z' hz' => .inr ⟨i, hz'⟩, fun q e => .inl e, fun q e => .inl e, fun i z' hz' => .inl ⟨i, hz'⟩⟩⟩
    have e2 : put2 C 4 (.slice a6 k c6) (.slice a7 k c7) = C := by
      rw [← put2_v HV.out]
      refine Array.ext_getElem? fun j => ?_
      by_cases e : j = 4
      · subst e
        rw [Array.getElem?_setIfInBounds_self_of_lt (by omega), HU.out]
      · rw [Array.getElem?_setIfInBounds_ne (fun h => e h.symm)]
    rw [e2]
    exact HBB.out
end Go.Proofs.YtngjjcmoekeciaaGreatDoor.Kel
