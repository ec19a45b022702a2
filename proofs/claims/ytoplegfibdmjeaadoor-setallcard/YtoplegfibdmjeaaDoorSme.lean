/- earshotbook's putBytes: all kept lists are marked. -/
import Derived.Test.YtoplegfibdmjeaaDoorSmd
namespace Go.Proofs.YtoplegfibdmjeaaDoor
open Go.RowKit Go.Shelf Go.Lib

/-- From base on alone something turns, and nothing but cells. -/
structure BN (base : Nat) (w V : World) : Prop where
  bl : Below base w V
  nc : ∀ (q : Nat) (o : Obj), w.heap[q]? = some o → o.isCells = false → V.heap[q]? = some o
  bz : base ≤ w.heap.size
theorem BN.size {base : Nat} {w V : World} (h : BN base w V) : w.heap.size ≤ V.heap.size := h.bl.size
theorem BN.refl {base : Nat} {w : World} (h : base ≤ w.heap.size) : BN base w w := ⟨Below.refl _ _, fun _ _ h _ => h, h⟩
theorem BN.trans {base : Nat} {u w V : World} (h : BN base u w) (k : BN base w V) : BN base u V := ⟨h.bl.trans k.bl, fun q o hq ho => k.nc q o (h.nc q o hq ho) ho, h.bz⟩
theorem BN.of {base : Nat} {w V : World} (h : base ≤ w.heap.size) (hb : Below w.heap.size w V) : BN base w V := ⟨hb.mono h, fun q _ hq _ => (hb.block q (lt_at hq)).trans hq, h⟩
theorem BN.carry {base : Nat} {w V U : World} (h : BN base w V) (hb : Below V.heap.size V U) : BN base w U := h.trans (BN.of (Nat.le_trans h.bz h.size) hb)
theorem BN.setc {base g j : Nat} {w V : World} {cur : Array Value} {t : TypeId} {z : Nat × Nat} (h : BN base w V) (hg : base ≤ g) (hc : V.heap[g]? = some (.cells cur t z)) (u : Value) : BN base w (V.setCell ⟨g, j, none⟩ u) :=
  ⟨h.bl.setCell (p := ⟨g, j, none⟩) hg u, fun q o hq ho => (set_other (fun e => by subst e; have := h.nc q o hq ho; rw [hc] at this; cases this; cases ho)).trans (h.nc q o hq ho), h.bz⟩
theorem BAt.setB {W : World} {g off : Nat} {l : List Int} (h : BAt W g off l) (j : Nat) (b : Int) : BAt (W.setCell ⟨g, off + j, none⟩ (.int .i64 (b : Int))) g off (l.set j b) := by
  intro k x hk
  by_cases e : j = k
  · subst e
    have hlt : j < l.length := by have := (List.getElem?_eq_some_iff.1 hk).1; simpa using this
    rw [List.getElem?_set_self hlt] at hk
    cases hk
    obtain ⟨y, hy⟩ : ∃ y, l[j]? = some y := ⟨_, List.getElem?_eq_getElem hlt⟩
    exact World.cell?_setCell_same _ _ _ (h j y hy)
  · rw [List.getElem?_set_ne e] at hk
    rw [World.cell?_setCell_other _ ⟨g, off + j, none⟩ ⟨g, off + k, none⟩ _ (fun q => e (by simp only [Addr.mk.injEq] at q; omega))]
    exact h k x hk
section
variable {base bb : Nat} {W V : World} {u v : Value} {x : List Value} {L : List (List Int)} {G : List (Option Nat)}
theorem Kl.put (h : Kl base bb W u v x L G) {i g off : Nat} {l : List Int} (hl : L[i]? = some l) (hz : x[i]? = some (.slice (some ⟨g, off, none⟩) l.length l.length)) (j : Nat) (b : Int) (hb : b < 256) : Kl base bb (W.setCell ⟨g, off + j, none⟩ (.int .i64 (b : Int))) u v x (L.set i (l.set j b)) G := by
  obtain ⟨z, gi, h1, h2, h3, h4, h5⟩ := h.fl i l hl
  rw [hz] at h1
  cases h1
  rcases h3 with ⟨q, _⟩ | ⟨g', off', cur, t, q, rfl, h7, h8, h9, h10⟩
  · cases q
  cases q
  have hbb : bb ≠ g := fun e => by
    have := h.kb
    unfold KB at this
    rw [e, h7] at this
    simp only [Option.some.injEq, Obj.cells.injEq] at this
    exact h8 this.2.1
  have hu : ∀ q, u.ownBlock = some q → q ≠ g := fun q hq e => by
    obtain ⟨_, cur', h11⟩ := ownsRow_block h.row q hq
    rw [e, h7] at h11
    simp only [Option.some.injEq, Obj.cells.injEq] at h11
    exact h9 h11.2.1
  refine ⟨(Below.heap_setCell _ _ _ _ hbb).trans h.kb, by rw [List.length_set]; exact ownsRow_set h.row hu _, fun i' l' hl' => ?_, h.ap, h.gb, h.bb, by rw [List.length_set]; exact h.k⟩
  by_cases e : i = i'
  · subst e
    rw [List.getElem?_set_self (List.getElem?_eq_some_iff.1 hl).1] at hl'
    cases hl'
    refine ⟨_, _, hz, h2, .inr ⟨g, off, cur.setIfInBounds (off + j) (.int .i64 (b : Int)), t, by rw [List.length_set], rfl, heap_setCell_same _ _ _ _ _ _ h7, h8, h9, h10.setB j b⟩, fun y hy => ?_, by rw [List.length_set]; exact h5⟩
    rcases List.mem_or_eq_of_mem_set hy with q | q
    · exact h4 y q
    · omega
  · rw [List.getElem?_set_ne e] at hl'
    obtain ⟨z', gi', k1, k2, k3, k4⟩ := h.fl i' l' hl'
    refine ⟨z', gi', k1, k2, k3.carry (fun g2 e2 => Below.heap_setCell _ _ _ _ (fun e3 => e ?_)), k4⟩
    subst e2
    have e4 : g2 = g := e3
    subst e4
    exact h.ap i i' g2 h2 k2
theorem Kl.spot (h : Kl base bb W u v x L G) {i g off n c : Nat} {l : List Int} (hl : L[i]? = some l) (hz : x[i]? = some (.slice (some ⟨g, off, none⟩) n c)) : (∃ cur t, W.heap[g]? = some (.cells cur t (0, 0))) ∧ BAt W g off l := by
  obtain ⟨z2, gi2, q1, q2, q3, _⟩ := h.fl i l hl
  rw [hz] at q1
  cases q1
  rcases q3 with ⟨q, _⟩ | ⟨g', off', cur', t', q, q4, q5, _, _, q6⟩
  · cases q
  · simp only [Value.slice.injEq, Option.some.injEq, Addr.mk.injEq] at q
    obtain ⟨⟨rfl, rfl, _⟩, _⟩ := q
    exact ⟨⟨_, _, q5⟩, q6⟩
theorem set_same {α : Type} {L : List α} {k : Nat} {l : α} (h : L[k]? = some l) : L.set k l = L := by
  refine List.ext_getElem? fun j => ?_
  by_cases e : k = j
  · subst e
    rw [List.getElem?_set_self (List.getElem?_eq_some_iff.1 h).1, h]
  · rw [List.getElem?_set_ne e]
theorem take_put {m l : List Int} {j : Nat} {y : Int} (hj : m[j]? = some y) (hl : l.length = m.length) : (m.take j ++ l.drop j).set j y = m.take (j + 1) ++ l.drop (j + 1) := by
  obtain ⟨hlt, rfl⟩ := List.getElem?_eq_some_iff.1 hj
  have e1 : (m.take j).length = j := by rw [List.length_take]; omega
  rw [List.set_append_right _ _ (by omega), e1, Nat.sub_self, List.drop_eq_getElem_cons (by omega), List.set_cons_zero, ← List.take_append_getElem hlt, List.append_assoc]
  rfl
end
theorem store_u8 {V : World} {B j : Nat} {x y : Int} (h : V.cell? ⟨B, j, none⟩ = some (.int .i64 x)) (z : V.frozen? ⟨B, j, none⟩ = false) : (Instr.storeAt 3 (.pointer (some ⟨B, j, none⟩)) (.int .i64 y)).run Tryd.prog V = .ok () (V.setCell ⟨B, j, none⟩ (.int .i64 y)) := by go_simp
/-- Marked up to k. -/
def upM (L L' : List (List Int)) (k : Nat) : Prop := L'.length = L.length ∧ ∀ (j : Nat) (l : List Int), L[j]? = some l → L'[j]? = some (if j < k then mkB j 0 l.length else l)
theorem upM.zero (L : List (List Int)) : upM L L 0 := ⟨rfl, fun j l hl => by rw [if_neg (by omega)]; exact hl⟩
theorem upM.succ {L L' : List (List Int)} {k : Nat} (h : upM L L' k) {l : List Int} (hl : L[k]? = some l) : upM L (L'.set k (mkB k 0 l.length)) (k + 1) := by
  refine ⟨by rw [List.length_set]; exact h.1, fun j l' hl' => ?_⟩
  by_cases e : k = j
  · subst e
    rw [hl] at hl'
    cases hl'
    rw [List.getElem?_set_self (by rw [h.1]; exact (List.getElem?_eq_some_iff.1 hl).1), if_pos (by omega)]
  · rw [List.getElem?_set_ne e, h.2 j l' hl']
    by_cases q : j < k
    · rw [if_pos q, if_pos (by omega)]
    · rw [if_neg q, if_neg (by omega)]
set_option maxHeartbeats 8000000 in
set_option maxRecDepth 100000 in
theorem put_any {base bb : Nat} {w : World} {u v : Value} {x : List Value} {L : List (List Int)} {G : List (Option Nat)} (h : Kl base bb w u v x L G) (hbz : base ≤ w.heap.size) : Calls Tryd.prog 33 #[.pointer (some ⟨bb, 0, none⟩)] w fun e w' => e = .returned (.tuple #[]) ∧ (∃ L', Kl base bb w' u v x L' G ∧ upM L L' L.length) ∧ BN base w w' := by
  have hmx : Tryd.prog.follows .mixedOrders = true := by kernel_rfl
  obtain ⟨au, cu, eu, _⟩ := ownsRow_form h.row
  subst eu
  have hk4 := h.k
  have m8 : ∀ (V : World) (L' : List (List Int)), Kl base bb V (.slice au L.length cu) v x L' G → V.cell? ⟨bb, 0, none⟩ = some (.slice au L.length cu) := fun V L' hV => by
    rw [cell_at hV.kb]
    rfl
  go_enter Tryd.func33, Tryd.ntmps33
  go_wp2
  go_loopw [2] (fun i wz => ∃ (k : Nat) (L' : List (List Int)), i = .int .i64 (k : Int) ∧ k ≤ L.length ∧ Kl base bb wz (.slice au L.length cu) v x L' G ∧ upM L L' k ∧ BN base w wz) (fun i _ => L.length - vnat i)
  case atStart => exact ⟨0, L, rfl, Nat.zero_le _, h, upM.zero L, BN.refl hbz⟩
  case round =>
    obtain ⟨k, L', rfl, hk, hK', hup, hbw⟩ := hrel
    have mm := m8 _ _ hK'
    by_cases hkl : k < L.length
    case neg =>
      have hki : ¬ (k : Int) < (L.length : Int) := by omega
      obtain rfl : k = L.length := by omega
      go_wp2
      go_end0
      exact ⟨rfl, ⟨L', hK', hup⟩, hbw⟩
    have hki : (k : Int) < (L.length : Int) := by omega
    obtain ⟨l, hl⟩ : ∃ l, L[k]? = some l := ⟨_, List.getElem?_eq_getElem hkl⟩
    have hl' : L'[k]? = some l := by rw [hup.2 k l hl, if_neg (by omega)]
    obtain ⟨gu, cu', z, gi, e1, c1, hxz, hGk, hfl, hby, hln⟩ := hK'.cell hl'
    simp only [Value.slice.injEq] at e1
    obtain ⟨rfl, _, rfl⟩ := e1
    obtain ⟨adx, rfl, hrx, hnx⟩ := hfl.form
    have hmk : Calls Tryd.prog 82 #[.int .i64 (k : Int), .int .i64 0, .int .i64 (l.length : Int)] wr (fun e w' => ∃ v, e = .returned v ∧ w'.ownsRow wr.heap.size 3 1 v l.length (cB (mkB k 0 l.length)) ∧ Below wr.heap.size wr w') := mark_any k 0 l.length (by omega) (by omega) (by omega) wr
    have hgx : ∀ g, gi = some g → g < wr.heap.size ∧ base ≤ g := fun g e => ⟨by subst e; exact hfl.lt, by subst e; exact hK'.gb k g hGk⟩
    obtain ⟨sz, hsz⟩ : ∃ sz, wr.heap.size = sz := ⟨_, rfl⟩
    rw [hsz] at hgx
    have HSZ : Hid (wr.heap.size = sz) := hsz
    clear hsz
    have HLK : Hid (L[k]? = some l) := hl
    have HLK' : Hid (L'[k]? = some l) := hl'
    have HXZ : Hid (x[k]? = some (.slice adx l.length l.length)) := hxz
    have HUP : Hid (upM L L' k) := hup
    clear hl hl' hxz hup
    go_wp2_with (go_at_call 82; (with_reducible refine hmk.mono ?_); rintro e va ⟨vm, rfl, hro, hba⟩; obtain ⟨am, cm, em, _⟩ := ownsRow_form hro; subst em; rw [HSZ.out] at hro; have hKa := hK'.carry hba; have hBa := hbw.carry hba)
    go_loopw [4] (fun i wz => ∃ j : Nat, i = .int .i64 (j : Int) ∧ j ≤ l.length ∧ Kl base bb wz (.slice (some ⟨gu, 0, none⟩) L.length cu) v x (L'.set k ((mkB k 0 l.length).take j ++ l.drop j)) G ∧ wz.ownsRow sz 3 1 (.slice am l.length cm) l.length (cB (mkB k 0 l.length)) ∧ BN base w wz) (fun i _ => l.length - vnat i)
    case atStart => exact ⟨0, rfl, Nat.zero_le _, by rw [List.take_zero, List.nil_append, List.drop_zero, set_same HLK'.out]; exact hKa, hro, hBa⟩
    case round =>
      obtain ⟨j, rfl, hj, hKj, hrj, hBj⟩ := hrel
      by_cases hjl : j < l.length
      case neg =>
        have hji : ¬ (j : Int) < (l.length : Int) := by omega
        obtain rfl : j = l.length := by omega
        have hfin : (mkB k 0 l.length).take l.length ++ l.drop l.length = mkB k 0 l.length := by rw [List.take_of_length_le (by rw [mkB_len]; omega), List.drop_length, List.append_nil]
        rw [hfin] at hKj
        go_wp2
        go_roundw
        case rel => exact ⟨k + 1, _, by simp, by omega, hKj, HUP.out.succ HLK.out, hBj⟩
        case measure => simp [vnat]; omega
      have hji : (j : Int) < (l.length : Int) := by omega
      obtain ⟨y, hy⟩ := mkB_get k l.length j hjl
      have hy8 := mkB_byt k 0 l.length y (List.mem_of_getElem? hy)
      obtain ⟨gm, cm', em⟩ := own_some hrj (by omega)
      simp only [Value.slice.injEq] at em
      obtain ⟨rfl, _, rfl⟩ := em
      have hmAt := b_own hrj (mkB_len k 0 l.length).symm
      have hgm := own_block hrj gm rfl
      have hcl : (L'.set k ((mkB k 0 l.length).take j ++ l.drop j))[k]? = some ((mkB k 0 l.length).take j ++ l.drop j) := List.getElem?_set_self (List.getElem?_eq_some_iff.1 HLK'.out).1
      have hll : ((mkB k 0 l.length).take j ++ l.drop j).length = l.length := by rw [List.length_append, List.length_take, mkB_len, List.length_drop]; omega
      have hst : ((mkB k 0 l.length).take j ++ l.drop j).set j y = (mkB k 0 l.length).take (j + 1) ++ l.drop (j + 1) := take_put hy (mkB_len k 0 l.length).symm
      rcases hfl with ⟨_, q, _⟩ | ⟨g, off, cur, t, ez, eg, hgc, _⟩
      · rw [q] at hjl
        cases hjl
      obtain ⟨hglt, hgb⟩ := hgx g eg
      simp only [Value.slice.injEq] at ez
      obtain ⟨rfl, _, _⟩ := ez
      have hgmg : gm ≠ g := by omega
      have HY : Hid ((mkB k 0 l.length)[j]? = some y) := hy
      clear hy
      have mj := m8 _ _ hKj
      go_wp2
      rename_i hK
      refine wp_region_any hmx ?_
      refine wpAny_last 13 (fun i__ => ([(.pointer (some ⟨bb, 0, none⟩)), (.pointer (some ⟨bb, 0, none⟩)), (.pointer (some ⟨bb, 0, none⟩)), (.slice (some ⟨gu, 0, none⟩) L.length cu), (.int .i64 (k : Int)), (.pointer (some ⟨gu, k, none⟩)), (.slice (some ⟨g, off, none⟩) l.length l.length), (.int .i64 (j : Int)), (.slice (some ⟨gm, 0, none⟩) l.length cm), (.int .i64 (j : Int)), (.pointer (some ⟨gm, 0 + j, none⟩)), (.int .i64 (y : Int)), (.pointer (some ⟨g, off + j, none⟩)), undef] : List Value).getD i__ undef) (fun V => Kl base bb V (.slice (some ⟨gu, 0, none⟩) L.length cu) v x (L'.set k ((mkB k 0 l.length).take j ++ l.drop j)) G ∧ V.ownsRow sz 3 1 (.slice (some ⟨gm, 0, none⟩) l.length cm) l.length (cB (mkB k 0 l.length)) ∧ BN base w V) (fun V => Kl base bb V (.slice (some ⟨gu, 0, none⟩) L.length cu) v x (L'.set k ((mkB k 0 l.length).take (j + 1) ++ l.drop (j + 1))) G ∧ V.ownsRow sz 3 1 (.slice (some ⟨gm, 0, none⟩) l.length cm) l.length (cB (mkB k 0 l.length)) ∧ BN base w V) rfl (by kernel_rfl) (by kernel_rfl) (⟨hKj.carry (Below.refl _ _).drew, row_below hrj (Below.refl _ _).drew, hBj.carry (Below.refl _ _).drew⟩) ?_ ?_  ?_
      · refine (stepsFrom_cons ?_ (stepsFrom_cons ?_ (stepsFrom_cons ?_ (stepsFrom_cons ?_ (stepsFrom_cons ?_ (stepsFrom_cons ?_ (stepsFrom_cons ?_ (stepsFrom_cons ?_ (stepsFrom_cons ?_ (stepsFrom_cons ?_ (stepsFrom_cons ?_ (stepsFrom_cons ?_ (stepsFrom_cons ?_ trivial)))))))))))))
        · exact step_move rfl trivial _ rfl (by kernel_rfl)
        · exact step_nilCheck rfl trivial _ _ _ rfl rfl rfl
        · exact step_fieldAddr rfl trivial _ _ _ _ rfl rfl (fun v hw => field_b8 v _)
        · exact step_load rfl trivial _ _ _ rfl rfl (fun v hw => load_ss (m8 v _ hw.1))
        · exact step_move rfl trivial _ rfl (by kernel_rfl)
        · exact step_indexAddr rfl trivial _ _ _ _ _ rfl rfl rfl (fun v hw => idx_ss gu _ _ k hkl v)
        · exact step_load rfl trivial _ _ _ rfl rfl (fun v hw => by obtain ⟨gu2, cu2, z2, gi2, e2, cc, hx2, _⟩ := hw.1.cell hcl; simp only [Value.slice.injEq] at e2; obtain ⟨e3, _, _⟩ := e2; simp only [Option.some.injEq, Addr.mk.injEq] at e3; obtain ⟨rfl, _⟩ := e3; rw [HXZ.out] at hx2; cases hx2; exact load_s1 cc)
        · exact step_move rfl trivial _ rfl (by kernel_rfl)
        · exact step_move rfl trivial _ rfl (by kernel_rfl)
        · exact step_move rfl trivial _ rfl (by kernel_rfl)
        · exact step_indexAddr rfl trivial _ _ _ _ _ rfl rfl rfl (fun v hw => idx_bz gm 0 _ _ j hjl v)
        · exact step_load rfl trivial _ _ _ rfl rfl (fun v hw => load_u8 ((b_own hw.2.1 (mkB_len k 0 l.length).symm) j y HY.out))
        · exact step_indexAddr rfl trivial _ _ _ _ _ rfl rfl rfl (fun v hw => idx_bz g off _ _ j hjl v)
      · intro o ho
        cases ho
        exact step_store rfl trivial rfl _ _ _ _ _ rfl rfl rfl (fun v hw => by have hxz2 : x[k]? = some (.slice (some ⟨g, off, none⟩) ((mkB k 0 l.length).take j ++ l.drop j).length ((mkB k 0 l.length).take j ++ l.drop j).length) := (by rw [hll]; exact HXZ.out); have hp := hw.1.put hcl hxz2 j y hy8; rw [List.set_set, hst] at hp; obtain ⟨⟨cur', t', q5⟩, q6⟩ := hw.1.spot hcl HXZ.out; obtain ⟨yy, hyy⟩ : ∃ yy, ((mkB k 0 l.length).take j ++ l.drop j)[j]? = some yy := ⟨_, List.getElem?_eq_getElem (by omega)⟩; exact ⟨_, store_u8 (q6 j yy hyy) (thaw_at q5 _), hp, ownsRow_set hw.2.1 (fun q e => by cases e; exact hgmg) _, hw.2.2.setc hgb q5 _⟩)
      intro W hW
      first | refine hK _ _ ?_ | refine (‹∀ (a : Act) (w : World), Code.wp Tryd.prog _ _ a w → _›) _ _ ?_
      simp only [finL, List.getD_cons_zero, List.getD_cons_succ, Nat.zero_add, Nat.reduceAdd, List.setIfInBounds_toArray, List.set_cons_zero, List.set_cons_succ]
      obtain ⟨hK2, hr2, hB2⟩ := hW
      clear hK
      go_wp2
      go_roundw
      case rel => exact ⟨j + 1, by simp, by omega, hK2, hr2, hB2⟩
      case measure => simp [vnat]; omega
end Go.Proofs.YtoplegfibdmjeaaDoor
