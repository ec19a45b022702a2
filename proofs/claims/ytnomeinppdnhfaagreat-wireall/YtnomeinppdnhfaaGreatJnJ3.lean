/- The document's Rising, SameNotices: what they answer. -/
import Derived.Test.YtnomeinppdnhfaaGreatRnt
import Derived.Test.YtnomeinppdnhfaaGreatSlg
import Derived.Test.YtnomeinppdnhfaaGreatRows
import Derived.ProofKit
import Derived.OpenShut
import Derived.ChangeOld
import Derived.Below
import Derived.Deep.Slices
import Derived.Deep.Strs
namespace Go.Proofs.YtnomeinppdnhfaaGreat
open Go.RowKit Go.Shelf

theorem idx_n (gb off n cap i : Nat) (h : i < n) (W : World) : (Instr.indexAt 42 (.slice (some ⟨gb, off, none⟩) n cap) (.int .i64 (i : Int))).run Tryz.prog W = .ok (.pointer (some ⟨gb, off + i * 3, none⟩)) W := by
  have h1 : (i : Int) < (n : Int) := by omega
  have h2 : 0 ≤ (i : Int) := by omega
  go_simp
theorem load_at {W : World} {b off : Nat} {l : List (Int × Int × Int)} (h : NtsAt W b off l) {k : Nat} {o t q : Int} (hx : l[k]? = some (o, t, q)) : (Instr.loadAt 80 (.pointer (some ⟨b, off + k * 3, none⟩))).run Tryz.prog W = .ok (nt o t q) W := by
  obtain ⟨c0, c1, c2⟩ := h k _ hx
  unfold nt
  go_simp
theorem field_at (W : World) (b off : Nat) : (Instr.fieldAt 80 (.pointer (some ⟨b, off, none⟩)) 0).run Tryz.prog W = .ok (.pointer (some ⟨b, off, none⟩)) W := by go_simp
theorem load_of {W : World} {b off : Nat} {l : List (Int × Int × Int)} (h : NtsAt W b off l) {k : Nat} {o t q : Int} (hx : l[k]? = some (o, t, q)) : (Instr.loadAt 3 (.pointer (some ⟨b, off + k * 3, none⟩))).run Tryz.prog W = .ok (.int .i64 o) W := by
  obtain ⟨c0, c1, c2⟩ := h k _ hx
  go_simp
theorem un_not {P : Program} (a : Bool) (w : World) : (Op.unary .not (.bool a)).run P w = .ok (.bool (!a)) w := by
  cases a <;> simp [go_sem]
/-- What lies there: two lists. -/
structure JI (w : World) (b off : Nat) (l : List (Int × Int × Int)) (c of : Nat) (m : List (Int × Int × Int)) (W : World) : Prop where
  lt : b < W.heap.size
  at' : NtsAt W b off l
  lt2 : c < W.heap.size
  at2 : NtsAt W c of m
  below : Below w.heap.size w W
theorem NtsAt.carry {W W' : World} {b off : Nat} {l : List (Int × Int × Int)} (h : NtsAt W b off l) (hl : b < W.heap.size) (hb : Below W.heap.size W W') : NtsAt W' b off l := fun k x hk => by
  obtain ⟨c0, c1, c2⟩ := h k x hk
  exact ⟨(hb.cell (p := ⟨b, _, none⟩) hl).trans c0, (hb.cell (p := ⟨b, _, none⟩) hl).trans c1, (hb.cell (p := ⟨b, _, none⟩) hl).trans c2⟩
theorem JI.carry {w : World} {b off c of : Nat} {l m : List (Int × Int × Int)} {W W' : World} (h : JI w b off l c of m W) (hb : Below W.heap.size W W') : JI w b off l c of m W' :=
  ⟨Nat.lt_of_lt_of_le h.lt hb.size, h.at'.carry h.lt hb, Nat.lt_of_lt_of_le h.lt2 hb.size, h.at2.carry h.lt2 hb, bel2 h.below hb⟩
/-- The node of the one ahead. -/
def aheadOf (l : List (Int × Int × Int)) (k : Nat) : Int := match k with | 0 => -1 | j + 1 => ((l[j]?).getD (0, 0, 0)).1
set_option maxHeartbeats 4000000 in
set_option maxRecDepth 100000 in
theorem rRising_any (n : Int) (ad : Option Addr) (cap : Nat) (l : List (Int × Int × Int)) (w : World) (h : RdN w ad l) (hl : l.length ≤ 6000000000000) : Calls Tryz.prog 20 #[.int .i64 n, .slice ad l.length cap] w fun e w' => e = .returned (.bool (ris n (-1) l)) ∧ Below w.heap.size w w' := by
  have hmx : Tryz.prog.follows .mixedOrders = true := by kernel_rfl
  obtain ⟨R, hR⟩ : ∃ R, ris n (-1) l = R := ⟨_, rfl⟩
  rw [hR]
  have HR : Hid (ris n (aheadOf l 0) (l.drop 0) = R) := hR
  clear hR
  go_enter Tryz.func20, Tryz.ntmps20
  go_wp2
  go_loopw [5] (fun i wz => ∃ (k : Nat), i = .int .i64 k ∧ k ≤ l.length ∧ Hid (ris n (aheadOf l k) (l.drop k) = R) ∧ Below w.heap.size w wz) (fun i _ => l.length - vnatR i)
  case atStart => exact ⟨0, rfl, Nat.zero_le _, HR, Below.refl _ _⟩
  case round =>
    obtain ⟨k, rfl, hk, HK, hbw⟩ := hrel
    have hsw := hbw.size
    by_cases hkl : k < l.length
    · obtain ⟨b, off, e1, hbl, hat⟩ := h.carry hbw (fun e => by subst e; simp at hkl)
      subst e1
      have hj : JI w b off l b off l wr := ⟨hbl, hat, hbl, hat, hbw⟩
      obtain ⟨⟨o, t, q⟩, hx⟩ : ∃ x, l[k]? = some x := ⟨_, List.getElem?_eq_getElem hkl⟩
      have HS := ris_step n (aheadOf l k) _ l k hx
      rw [HK.out] at HS
      dsimp only at HS
      have hnx : aheadOf l (k + 1) = o := by show ((l[k]?).getD (0, 0, 0)).1 = o; rw [hx]; rfl
      have hki : (k : Int) < (l.length : Int) := by omega
      have hvl := rValid_any n o t q
      cases hv : vl n o t q with
      | false =>
        rw [hv] at hvl HS
        have HF : Hid (R = false) := HS
        clear HS hv HK HR hat hnx
        go_wp2
        rename_i Q0 K0 hK
        refine wp_region_any hmx ?_
        refine wpAny_pure (fun i__ => ([(.int .i64 n), (.slice (some ⟨b, off, none⟩) l.length cap), (.int .i64 (k : Int)), (.pointer (some ⟨b, off + k * 3, none⟩)), (nt o t q), (.bool false), (.bool true), (.bool true), undef, undef, undef, undef, undef, undef, undef, undef, undef, undef, undef, undef, undef, undef, undef, undef, (.bool true)] : List Value).getD i__ undef) (fun W => JI w b off l b off l W) (by kernel_rfl) (hj.carry (Below.refl _ _).drew) ?_ ?_
        · refine (stepsFrom_cons ?_ (stepsFrom_cons ?_ (stepsFrom_cons ?_ (stepsFrom_cons ?_ (stepsFrom_cons ?_ (stepsFrom_cons ?_ (stepsFrom_cons ?_ (stepsFrom_cons ?_ (stepsFrom_cons ?_ (stepsFrom_cons ?_ (stepsFrom_cons ?_ (stepsFrom_cons ?_ (stepsFrom_cons ?_ (stepsFrom_cons ?_ (stepsFrom_cons ?_ (stepsFrom_cons ?_ (stepsFrom_cons ?_ (stepsFrom_cons ?_ (stepsFrom_cons ?_ (stepsFrom_cons ?_ (stepsFrom_cons ?_ (stepsFrom_cons ?_ (stepsFrom_cons ?_ (stepsFrom_cons ?_ (stepsFrom_cons ?_ trivial)))))))))))))))))))))))))
          · exact step_move rfl trivial _ rfl (by kernel_rfl)
          · exact step_move rfl trivial _ rfl (by kernel_rfl)
          · exact step_move rfl trivial _ rfl (by kernel_rfl)
          · exact step_indexAddr rfl trivial _ _ _ _ _ rfl rfl rfl (fun w hw => idx_n b off l.length cap k hkl w)
          · exact step_load rfl trivial _ _ _ rfl rfl (fun w hw => load_at hw.at' hx)
          · exact step_call rfl trivial 79 _ _ [(.int .i64 n), (nt o t q)] rfl (by kernel_rfl) (enters_of Tryz.func79 (by kernel_rfl) rfl) (fun w hw => (hvl w).mono (by rintro e w' ⟨rfl, hb⟩; exact ⟨rfl, hw.carry hb⟩))
          · exact step_unOp rfl trivial _ _ _ _ rfl rfl (fun w hw => un_not _ w)
          · exact step_move rfl trivial _ rfl (by kernel_rfl)
          · exact step_skip rfl 7 false 19 (.bool true) rfl rfl (by kernel_rfl) (by intro h; cases h) rfl
          · exact step_skip rfl 7 false 19 (.bool true) rfl rfl (by kernel_rfl) (by intro h; cases h) rfl
          · exact step_skip rfl 7 false 19 (.bool true) rfl rfl (by kernel_rfl) (by intro h; cases h) rfl
          · exact step_skip rfl 10 true 22 undef rfl rfl (by kernel_rfl) (by intro h; cases h) rfl
          · exact step_skip rfl 10 true 22 undef rfl rfl (by kernel_rfl) (by intro h; cases h) rfl
          · exact step_skip rfl 10 true 22 undef rfl rfl (by kernel_rfl) (by intro h; cases h) rfl
          · exact step_skip rfl 10 true 22 undef rfl rfl (by kernel_rfl) (by intro h; cases h) rfl
          · exact step_skip rfl 10 true 22 undef rfl rfl (by kernel_rfl) (by intro h; cases h) rfl
          · exact step_skip rfl 10 true 22 undef rfl rfl (by kernel_rfl) (by intro h; cases h) rfl
          · exact step_skip rfl 10 true 22 undef rfl rfl (by kernel_rfl) (by intro h; cases h) rfl
          · exact step_skip rfl 10 true 22 undef rfl rfl (by kernel_rfl) (by intro h; cases h) rfl
          · exact step_skip rfl 10 true 22 undef rfl rfl (by kernel_rfl) (by intro h; cases h) rfl
          · exact step_skip rfl 10 true 22 undef rfl rfl (by kernel_rfl) (by intro h; cases h) rfl
          · exact step_skip rfl 10 true 22 undef rfl rfl (by kernel_rfl) (by intro h; cases h) rfl
          · exact step_skip rfl 10 true 22 undef rfl rfl (by kernel_rfl) (by intro h; cases h) rfl
          · exact step_skip rfl 7 false 19 (.bool true) rfl rfl (by kernel_rfl) (by intro h; cases h) rfl
          · exact step_pick rfl trivial _ _ _ true rfl (by kernel_rfl) (by kernel_rfl)
        intro W hW
        first | refine hK _ _ ?_ | refine (‹∀ (a : Act) (w : World), Code.wp Tryz.prog _ _ a w → _›) _ _ ?_ | skip
        simp only [finL, List.getD_cons_zero, List.getD_cons_succ, Nat.zero_add, Nat.reduceAdd, List.setIfInBounds_toArray, List.set_cons_zero, List.set_cons_succ]
        clear hK
        go_wp2
        go_ret
        rw [HF.out]
        exact ⟨rfl, hW.below⟩
      | true =>
        have ho : 0 ≤ o := (of_decide_eq_true hv).2.2.1
        rw [hv] at hvl HS
        by_cases hk0 : k = 0
        · have HN : Hid (ris n (aheadOf l (k + 1)) (l.drop (k + 1)) = R) := by
            show _ = R
            have ha0 : aheadOf l k = -1 := by rw [hk0]; rfl
            rw [HS, hnx, ha0, decide_eq_true (show (-1 : Int) < o by omega)]
            rfl
          clear HS hv HK HR hat hnx
          go_wp2
          rename_i Q0 K0 hK
          refine wp_region_any hmx ?_
          refine wpAny_pure (fun i__ => ([(.int .i64 n), (.slice (some ⟨b, off, none⟩) l.length cap), (.int .i64 (k : Int)), (.pointer (some ⟨b, off + k * 3, none⟩)), (nt o t q), (.bool true), (.bool false), (.bool false), (.int .i64 (k : Int)), (.bool false), (.bool false), undef, undef, undef, undef, undef, undef, undef, undef, undef, undef, undef, undef, (.bool false), (.bool false)] : List Value).getD i__ undef) (fun W => JI w b off l b off l W) (by kernel_rfl) (hj.carry (Below.refl _ _).drew) ?_ ?_
          · refine (stepsFrom_cons ?_ (stepsFrom_cons ?_ (stepsFrom_cons ?_ (stepsFrom_cons ?_ (stepsFrom_cons ?_ (stepsFrom_cons ?_ (stepsFrom_cons ?_ (stepsFrom_cons ?_ (stepsFrom_cons ?_ (stepsFrom_cons ?_ (stepsFrom_cons ?_ (stepsFrom_cons ?_ (stepsFrom_cons ?_ (stepsFrom_cons ?_ (stepsFrom_cons ?_ (stepsFrom_cons ?_ (stepsFrom_cons ?_ (stepsFrom_cons ?_ (stepsFrom_cons ?_ (stepsFrom_cons ?_ (stepsFrom_cons ?_ (stepsFrom_cons ?_ (stepsFrom_cons ?_ (stepsFrom_cons ?_ (stepsFrom_cons ?_ trivial)))))))))))))))))))))))))
            · exact step_move rfl trivial _ rfl (by kernel_rfl)
            · exact step_move rfl trivial _ rfl (by kernel_rfl)
            · exact step_move rfl trivial _ rfl (by kernel_rfl)
            · exact step_indexAddr rfl trivial _ _ _ _ _ rfl rfl rfl (fun w hw => idx_n b off l.length cap k hkl w)
            · exact step_load rfl trivial _ _ _ rfl rfl (fun w hw => load_at hw.at' hx)
            · exact step_call rfl trivial 79 _ _ [(.int .i64 n), (nt o t q)] rfl (by kernel_rfl) (enters_of Tryz.func79 (by kernel_rfl) rfl) (fun w hw => (hvl w).mono (by rintro e w' ⟨rfl, hb⟩; exact ⟨rfl, hw.carry hb⟩))
            · exact step_unOp rfl trivial _ _ _ _ rfl rfl (fun w hw => un_not _ w)
            · exact step_move rfl trivial _ rfl (by kernel_rfl)
            · exact step_move rfl (by exact ⟨_, rfl, by kernel_rfl⟩) _ rfl (by kernel_rfl)
            · exact step_binOp rfl (by exact ⟨_, rfl, by kernel_rfl⟩) _ _ _ _ _ _ _ rfl rfl rfl (fun w hw => (bin_gtr .i64 _ _).trans (by simp; omega))
            · exact step_move rfl (by exact ⟨_, rfl, by kernel_rfl⟩) _ rfl (by kernel_rfl)
            · exact step_skip rfl 10 true 22 (.bool false) rfl rfl (by kernel_rfl) (by intro h; cases h) rfl
            · exact step_skip rfl 10 true 22 (.bool false) rfl rfl (by kernel_rfl) (by intro h; cases h) rfl
            · exact step_skip rfl 10 true 22 (.bool false) rfl rfl (by kernel_rfl) (by intro h; cases h) rfl
            · exact step_skip rfl 10 true 22 (.bool false) rfl rfl (by kernel_rfl) (by intro h; cases h) rfl
            · exact step_skip rfl 10 true 22 (.bool false) rfl rfl (by kernel_rfl) (by intro h; cases h) rfl
            · exact step_skip rfl 10 true 22 (.bool false) rfl rfl (by kernel_rfl) (by intro h; cases h) rfl
            · exact step_skip rfl 10 true 22 (.bool false) rfl rfl (by kernel_rfl) (by intro h; cases h) rfl
            · exact step_skip rfl 10 true 22 (.bool false) rfl rfl (by kernel_rfl) (by intro h; cases h) rfl
            · exact step_skip rfl 10 true 22 (.bool false) rfl rfl (by kernel_rfl) (by intro h; cases h) rfl
            · exact step_skip rfl 10 true 22 (.bool false) rfl rfl (by kernel_rfl) (by intro h; cases h) rfl
            · exact step_skip rfl 10 true 22 (.bool false) rfl rfl (by kernel_rfl) (by intro h; cases h) rfl
            · exact step_skip rfl 10 true 22 (.bool false) rfl rfl (by kernel_rfl) (by intro h; cases h) rfl
            · exact step_pick rfl (by exact ⟨_, rfl, by kernel_rfl⟩) _ _ _ false rfl (by kernel_rfl) (by kernel_rfl)
            · exact step_pick rfl trivial _ _ _ false rfl (by kernel_rfl) (by kernel_rfl)
          intro W hW
          first | refine hK _ _ ?_ | refine (‹∀ (a : Act) (w : World), Code.wp Tryz.prog _ _ a w → _›) _ _ ?_ | skip
          simp only [finL, List.getD_cons_zero, List.getD_cons_succ, Nat.zero_add, Nat.reduceAdd, List.setIfInBounds_toArray, List.set_cons_zero, List.set_cons_succ]
          clear hK
          go_wp2
          go_roundw
          case rel => exact ⟨k + 1, by simp [hk0], by omega, HN, hW.below⟩
          case measure => simp [vnatR]; omega
        · obtain ⟨j, hkj⟩ : ∃ j, k = j + 1 := ⟨k - 1, by omega⟩
          obtain ⟨⟨a, t2, q2⟩, hy⟩ : ∃ x, l[j]? = some x := ⟨_, List.getElem?_eq_getElem (by omega)⟩
          have hah : aheadOf l k = a := by rw [hkj]; show ((l[j]?).getD (0, 0, 0)).1 = a; rw [hy]; rfl
          rw [hah] at HS
          have HJ : Hid (k = j + 1) := hkj
          clear hkj
          by_cases hlt : a < o
          · rw [decide_eq_true hlt] at HS
            have HN : Hid (ris n (aheadOf l (k + 1)) (l.drop (k + 1)) = R) := by show _ = R; rw [HS, hnx]; rfl
            clear HS hv HK HR hat hnx hah
            go_wp2
            rename_i Q0 K0 hK
            refine wp_region_any hmx ?_
            refine wpAny_pure (fun i__ => ([(.int .i64 n), (.slice (some ⟨b, off, none⟩) l.length cap), (.int .i64 (k : Int)), (.pointer (some ⟨b, off + k * 3, none⟩)), (nt o t q), (.bool true), (.bool false), (.bool false), (.int .i64 (k : Int)), (.bool true), (.bool true), (.slice (some ⟨b, off, none⟩) l.length cap), (.int .i64 (k : Int)), (.pointer (some ⟨b, off + k * 3, none⟩)), (.pointer (some ⟨b, off + k * 3, none⟩)), (.int .i64 o), (.slice (some ⟨b, off, none⟩) l.length cap), (.int .i64 (k : Int)), (.int .i64 (j : Int)), (.pointer (some ⟨b, off + j * 3, none⟩)), (.pointer (some ⟨b, off + j * 3, none⟩)), (.int .i64 a), (.bool false), (.bool false), (.bool false)] : List Value).getD i__ undef) (fun W => JI w b off l b off l W) (by kernel_rfl) (hj.carry (Below.refl _ _).drew) ?_ ?_
            · refine (stepsFrom_cons ?_ (stepsFrom_cons ?_ (stepsFrom_cons ?_ (stepsFrom_cons ?_ (stepsFrom_cons ?_ (stepsFrom_cons ?_ (stepsFrom_cons ?_ (stepsFrom_cons ?_ (stepsFrom_cons ?_ (stepsFrom_cons ?_ (stepsFrom_cons ?_ (stepsFrom_cons ?_ (stepsFrom_cons ?_ (stepsFrom_cons ?_ (stepsFrom_cons ?_ (stepsFrom_cons ?_ (stepsFrom_cons ?_ (stepsFrom_cons ?_ (stepsFrom_cons ?_ (stepsFrom_cons ?_ (stepsFrom_cons ?_ (stepsFrom_cons ?_ (stepsFrom_cons ?_ (stepsFrom_cons ?_ (stepsFrom_cons ?_ trivial)))))))))))))))))))))))))
              · exact step_move rfl trivial _ rfl (by kernel_rfl)
              · exact step_move rfl trivial _ rfl (by kernel_rfl)
              · exact step_move rfl trivial _ rfl (by kernel_rfl)
              · exact step_indexAddr rfl trivial _ _ _ _ _ rfl rfl rfl (fun w hw => idx_n b off l.length cap k hkl w)
              · exact step_load rfl trivial _ _ _ rfl rfl (fun w hw => load_at hw.at' hx)
              · exact step_call rfl trivial 79 _ _ [(.int .i64 n), (nt o t q)] rfl (by kernel_rfl) (enters_of Tryz.func79 (by kernel_rfl) rfl) (fun w hw => (hvl w).mono (by rintro e w' ⟨rfl, hb⟩; exact ⟨rfl, hw.carry hb⟩))
              · exact step_unOp rfl trivial _ _ _ _ rfl rfl (fun w hw => un_not _ w)
              · exact step_move rfl trivial _ rfl (by kernel_rfl)
              · exact step_move rfl (by exact ⟨_, rfl, by kernel_rfl⟩) _ rfl (by kernel_rfl)
              · exact step_binOp rfl (by exact ⟨_, rfl, by kernel_rfl⟩) _ _ _ _ _ _ _ rfl rfl rfl (fun w hw => (bin_gtr .i64 _ _).trans (by simp; omega))
              · exact step_move rfl (by exact ⟨_, rfl, by kernel_rfl⟩) _ rfl (by kernel_rfl)
              · exact step_move rfl (by exact ⟨_, rfl, by kernel_rfl⟩) _ rfl (by kernel_rfl)
              · exact step_move rfl (by exact ⟨_, rfl, by kernel_rfl⟩) _ rfl (by kernel_rfl)
              · exact step_indexAddr rfl (by exact ⟨_, rfl, by kernel_rfl⟩) _ _ _ _ _ rfl rfl rfl (fun w hw => idx_n b off l.length cap k hkl w)
              · exact step_fieldAddr rfl (by exact ⟨_, rfl, by kernel_rfl⟩) _ _ _ _ rfl rfl (fun w hw => field_at w _ _)
              · exact step_load rfl (by exact ⟨_, rfl, by kernel_rfl⟩) _ _ _ rfl rfl (fun w hw => load_of hw.at' hx)
              · exact step_move rfl (by exact ⟨_, rfl, by kernel_rfl⟩) _ rfl (by kernel_rfl)
              · exact step_move rfl (by exact ⟨_, rfl, by kernel_rfl⟩) _ rfl (by kernel_rfl)
              · exact step_binOp rfl (by exact ⟨_, rfl, by kernel_rfl⟩) _ _ _ _ _ _ _ rfl rfl rfl (fun w hw => bin_sub64 _ _ _ (by have := HJ.out; simp only [IntKind.wrap_i64]; omega))
              · exact step_indexAddr rfl (by exact ⟨_, rfl, by kernel_rfl⟩) _ _ _ _ _ rfl rfl rfl (fun w hw => idx_n b off l.length cap j (by have := HJ.out; omega) w)
              · exact step_fieldAddr rfl (by exact ⟨_, rfl, by kernel_rfl⟩) _ _ _ _ rfl rfl (fun w hw => field_at w _ _)
              · exact step_load rfl (by exact ⟨_, rfl, by kernel_rfl⟩) _ _ _ rfl rfl (fun w hw => load_of hw.at' hy)
              · exact step_binOp rfl (by exact ⟨_, rfl, by kernel_rfl⟩) _ _ _ _ _ _ _ rfl rfl rfl (fun w hw => (bin_leq .i64 _ _).trans (by simp; omega))
              · exact step_pick rfl (by exact ⟨_, rfl, by kernel_rfl⟩) _ _ _ true rfl (by kernel_rfl) (by kernel_rfl)
              · exact step_pick rfl trivial _ _ _ false rfl (by kernel_rfl) (by kernel_rfl)
            intro W hW
            first | refine hK _ _ ?_ | refine (‹∀ (a : Act) (w : World), Code.wp Tryz.prog _ _ a w → _›) _ _ ?_ | skip
            simp only [finL, List.getD_cons_zero, List.getD_cons_succ, Nat.zero_add, Nat.reduceAdd, List.setIfInBounds_toArray, List.set_cons_zero, List.set_cons_succ]
            clear hK
            go_wp2
            go_roundw
            case rel => exact ⟨k + 1, by simp, by omega, HN, hW.below⟩
            case measure => simp [vnatR]; omega
          · rw [decide_eq_false hlt] at HS
            have HF : Hid (R = false) := HS
            clear HS hv HK HR hat hnx hah
            go_wp2
            rename_i Q0 K0 hK
            refine wp_region_any hmx ?_
            refine wpAny_pure (fun i__ => ([(.int .i64 n), (.slice (some ⟨b, off, none⟩) l.length cap), (.int .i64 (k : Int)), (.pointer (some ⟨b, off + k * 3, none⟩)), (nt o t q), (.bool true), (.bool false), (.bool false), (.int .i64 (k : Int)), (.bool true), (.bool true), (.slice (some ⟨b, off, none⟩) l.length cap), (.int .i64 (k : Int)), (.pointer (some ⟨b, off + k * 3, none⟩)), (.pointer (some ⟨b, off + k * 3, none⟩)), (.int .i64 o), (.slice (some ⟨b, off, none⟩) l.length cap), (.int .i64 (k : Int)), (.int .i64 (j : Int)), (.pointer (some ⟨b, off + j * 3, none⟩)), (.pointer (some ⟨b, off + j * 3, none⟩)), (.int .i64 a), (.bool true), (.bool true), (.bool true)] : List Value).getD i__ undef) (fun W => JI w b off l b off l W) (by kernel_rfl) (hj.carry (Below.refl _ _).drew) ?_ ?_
            · refine (stepsFrom_cons ?_ (stepsFrom_cons ?_ (stepsFrom_cons ?_ (stepsFrom_cons ?_ (stepsFrom_cons ?_ (stepsFrom_cons ?_ (stepsFrom_cons ?_ (stepsFrom_cons ?_ (stepsFrom_cons ?_ (stepsFrom_cons ?_ (stepsFrom_cons ?_ (stepsFrom_cons ?_ (stepsFrom_cons ?_ (stepsFrom_cons ?_ (stepsFrom_cons ?_ (stepsFrom_cons ?_ (stepsFrom_cons ?_ (stepsFrom_cons ?_ (stepsFrom_cons ?_ (stepsFrom_cons ?_ (stepsFrom_cons ?_ (stepsFrom_cons ?_ (stepsFrom_cons ?_ (stepsFrom_cons ?_ (stepsFrom_cons ?_ trivial)))))))))))))))))))))))))
              · exact step_move rfl trivial _ rfl (by kernel_rfl)
              · exact step_move rfl trivial _ rfl (by kernel_rfl)
              · exact step_move rfl trivial _ rfl (by kernel_rfl)
              · exact step_indexAddr rfl trivial _ _ _ _ _ rfl rfl rfl (fun w hw => idx_n b off l.length cap k hkl w)
              · exact step_load rfl trivial _ _ _ rfl rfl (fun w hw => load_at hw.at' hx)
              · exact step_call rfl trivial 79 _ _ [(.int .i64 n), (nt o t q)] rfl (by kernel_rfl) (enters_of Tryz.func79 (by kernel_rfl) rfl) (fun w hw => (hvl w).mono (by rintro e w' ⟨rfl, hb⟩; exact ⟨rfl, hw.carry hb⟩))
              · exact step_unOp rfl trivial _ _ _ _ rfl rfl (fun w hw => un_not _ w)
              · exact step_move rfl trivial _ rfl (by kernel_rfl)
              · exact step_move rfl (by exact ⟨_, rfl, by kernel_rfl⟩) _ rfl (by kernel_rfl)
              · exact step_binOp rfl (by exact ⟨_, rfl, by kernel_rfl⟩) _ _ _ _ _ _ _ rfl rfl rfl (fun w hw => (bin_gtr .i64 _ _).trans (by simp; omega))
              · exact step_move rfl (by exact ⟨_, rfl, by kernel_rfl⟩) _ rfl (by kernel_rfl)
              · exact step_move rfl (by exact ⟨_, rfl, by kernel_rfl⟩) _ rfl (by kernel_rfl)
              · exact step_move rfl (by exact ⟨_, rfl, by kernel_rfl⟩) _ rfl (by kernel_rfl)
              · exact step_indexAddr rfl (by exact ⟨_, rfl, by kernel_rfl⟩) _ _ _ _ _ rfl rfl rfl (fun w hw => idx_n b off l.length cap k hkl w)
              · exact step_fieldAddr rfl (by exact ⟨_, rfl, by kernel_rfl⟩) _ _ _ _ rfl rfl (fun w hw => field_at w _ _)
              · exact step_load rfl (by exact ⟨_, rfl, by kernel_rfl⟩) _ _ _ rfl rfl (fun w hw => load_of hw.at' hx)
              · exact step_move rfl (by exact ⟨_, rfl, by kernel_rfl⟩) _ rfl (by kernel_rfl)
              · exact step_move rfl (by exact ⟨_, rfl, by kernel_rfl⟩) _ rfl (by kernel_rfl)
              · exact step_binOp rfl (by exact ⟨_, rfl, by kernel_rfl⟩) _ _ _ _ _ _ _ rfl rfl rfl (fun w hw => bin_sub64 _ _ _ (by have := HJ.out; simp only [IntKind.wrap_i64]; omega))
              · exact step_indexAddr rfl (by exact ⟨_, rfl, by kernel_rfl⟩) _ _ _ _ _ rfl rfl rfl (fun w hw => idx_n b off l.length cap j (by have := HJ.out; omega) w)
              · exact step_fieldAddr rfl (by exact ⟨_, rfl, by kernel_rfl⟩) _ _ _ _ rfl rfl (fun w hw => field_at w _ _)
              · exact step_load rfl (by exact ⟨_, rfl, by kernel_rfl⟩) _ _ _ rfl rfl (fun w hw => load_of hw.at' hy)
              · exact step_binOp rfl (by exact ⟨_, rfl, by kernel_rfl⟩) _ _ _ _ _ _ _ rfl rfl rfl (fun w hw => (bin_leq .i64 _ _).trans (by simp; omega))
              · exact step_pick rfl (by exact ⟨_, rfl, by kernel_rfl⟩) _ _ _ true rfl (by kernel_rfl) (by kernel_rfl)
              · exact step_pick rfl trivial _ _ _ false rfl (by kernel_rfl) (by kernel_rfl)
            intro W hW
            first | refine hK _ _ ?_ | refine (‹∀ (a : Act) (w : World), Code.wp Tryz.prog _ _ a w → _›) _ _ ?_ | skip
            simp only [finL, List.getD_cons_zero, List.getD_cons_succ, Nat.zero_add, Nat.reduceAdd, List.setIfInBounds_toArray, List.set_cons_zero, List.set_cons_succ]
            clear hK
            go_wp2
            go_ret
            rw [HF.out]
            exact ⟨rfl, hW.below⟩
    · have hkk : k = l.length := by omega
      subst hkk
      have HF : Hid (R = true) := by
        have := HK.out
        rw [List.drop_length] at this
        exact this.symm
      clear HK HR
      go_wp2
      go_ret
      rw [HF.out]
      exact ⟨rfl, hbw⟩
end Go.Proofs.YtnomeinppdnhfaaGreat
namespace Go.Proofs.YtnomeinppdnhfaaGreat
open Go.RowKit Go.Shelf

set_option maxHeartbeats 4000000 in
set_option maxRecDepth 100000 in
theorem same_any (ad ad2 : Option Addr) (cap cap2 : Nat) (l : List (Int × Int × Int)) (w : World) (h : RdN w ad l) (h2 : RdN w ad2 l) (hl : l.length ≤ 6000000000000) : Calls Tryz.prog 29 #[.slice ad l.length cap, .slice ad2 l.length cap2] w fun e w' => e = .returned (.bool true) ∧ Below w.heap.size w w' := by
  have hmx : Tryz.prog.follows .mixedOrders = true := by kernel_rfl
  go_enter Tryz.func29, Tryz.ntmps29
  go_wp2
  go_loopw [5] (fun i wz => ∃ (k : Nat), i = .int .i64 k ∧ k ≤ l.length ∧ Below w.heap.size w wz) (fun i _ => l.length - vnatR i)
  case atStart => exact ⟨0, rfl, Nat.zero_le _, Below.refl _ _⟩
  case round =>
    obtain ⟨k, rfl, hk, hbw⟩ := hrel
    by_cases hkl : k < l.length
    · have hne : l ≠ [] := fun e => by subst e; simp at hkl
      obtain ⟨b, off, e1, hbl, hat⟩ := h.carry hbw hne
      obtain ⟨c, of, e2, hcl, hat2⟩ := h2.carry hbw hne
      subst e1 e2
      have hj : JI w b off l c of l wr := ⟨hbl, hat, hcl, hat2, hbw⟩
      obtain ⟨⟨o, t, q⟩, hx⟩ : ∃ x, l[k]? = some x := ⟨_, List.getElem?_eq_getElem hkl⟩
      have hki : (k : Int) < (l.length : Int) := by omega
      clear hat hat2
      go_wp2
      rename_i Q0 K0 hK
      refine wp_region_any hmx ?_
      refine wpAny_pure (fun i__ => ([(.slice (some ⟨b, off, none⟩) l.length cap), (.int .i64 (k : Int)), (.pointer (some ⟨b, off + k * 3, none⟩)), (nt o t q), (.slice (some ⟨c, of, none⟩) l.length cap2), (.int .i64 (k : Int)), (.pointer (some ⟨c, of + k * 3, none⟩)), (nt o t q), (.bool true), (.bool false)] : List Value).getD i__ undef) (fun W => JI w b off l c of l W) (by kernel_rfl) (hj.carry (Below.refl _ _).drew) ?_ ?_
      · refine (stepsFrom_cons ?_ (stepsFrom_cons ?_ (stepsFrom_cons ?_ (stepsFrom_cons ?_ (stepsFrom_cons ?_ (stepsFrom_cons ?_ (stepsFrom_cons ?_ (stepsFrom_cons ?_ (stepsFrom_cons ?_ (stepsFrom_cons ?_ trivial))))))))))
        · exact step_move rfl trivial _ rfl (by kernel_rfl)
        · exact step_move rfl trivial _ rfl (by kernel_rfl)
        · exact step_indexAddr rfl trivial _ _ _ _ _ rfl rfl rfl (fun w hw => idx_n b off l.length cap k hkl w)
        · exact step_load rfl trivial _ _ _ rfl rfl (fun w hw => load_at hw.at' hx)
        · exact step_move rfl trivial _ rfl (by kernel_rfl)
        · exact step_move rfl trivial _ rfl (by kernel_rfl)
        · exact step_indexAddr rfl trivial _ _ _ _ _ rfl rfl rfl (fun w hw => idx_n c of l.length cap2 k hkl w)
        · exact step_load rfl trivial _ _ _ rfl rfl (fun w hw => load_at hw.at2 hx)
        · exact step_binOp rfl trivial _ _ _ _ _ _ _ rfl rfl rfl (fun w hw => (bin_eqn _ _ _ _ _ _).trans (by simp))
        · exact step_unOp rfl trivial _ _ _ _ rfl rfl (fun w hw => un_not _ w)
      intro W hW
      first | refine hK _ _ ?_ | refine (‹∀ (a : Act) (w : World), Code.wp Tryz.prog _ _ a w → _›) _ _ ?_ | skip
      simp only [finL, List.getD_cons_zero, List.getD_cons_succ, Nat.zero_add, Nat.reduceAdd, List.setIfInBounds_toArray, List.set_cons_zero, List.set_cons_succ]
      clear hK
      go_wp2
      go_roundw
      case rel => exact ⟨k + 1, by simp, by omega, hW.below⟩
      case measure => simp [vnatR]; omega
    · have hkk : k = l.length := by omega
      subst hkk
      go_wp2
      go_ret
      exact ⟨rfl, hbw⟩
end Go.Proofs.YtnomeinppdnhfaaGreat
namespace Go.Proofs.YtnomeinppdnhfaaGreat
open Go.ChangeShapes Go.WideShapes Go.ChangeAt Go.RowKit

theorem cellsIM : Tryz.prog.cellsOf 3 = 1 := by kernel_rfl
theorem cellsNM : Tryz.prog.cellsOf 80 = 3 := by kernel_rfl
theorem cell_ltM {W : World} {a : Addr} {v : Value} (h : W.cell? a = some v) : a.block < W.heap.size := by
  unfold World.cell? at h
  cases hb : W.heap[a.block]? with
  | none => simp [hb] at h
  | some o => exact (Array.getElem?_eq_some_iff.1 hb).1
set_option maxRecDepth 100000 in
/-- One notice, out of its cells. -/
theorem one_nt {H : Type} {enc : TypeId × Value → H} {W : World} {n : Nat} {cs : List Value} {x : DataW H × List MemPlace} (hl : cs.length = 3) (h : DataW.trod enc Tryz.prog W 0 (fun _ => true) true n 80 cs = some x) : ∃ o t k : Int, cs = [.int .i64 o, .int .i64 t, .int .i64 k] := by
  obtain ⟨y0, y1, y2, m, hx, _, hy0, hy1, hy2⟩ := Deep.trod_struct3 Tryz.underlying80 h
  match cs, hl with
  | [c0, c1, c2], _ =>
    obtain ⟨x0, e0, _, _⟩ := DataW.trod_int Tryz.underlying3 hy0
    obtain ⟨x1, e1, _, _⟩ := DataW.trod_int Tryz.underlying3 hy1
    obtain ⟨x2, e2, _, _⟩ := DataW.trod_int Tryz.underlying3 hy2
    simp [cellsIM] at e0 e1 e2
    subst e0 e1 e2
    exact ⟨x0, x1, x2, rfl⟩
set_option maxRecDepth 100000 in
theorem open_nts {H : Type} {enc : TypeId × Value → H} {W : World} {base : Nat} {v : Value} {d : DataW H} {p : List MemPlace} (hval : Value.okWide Tryz.prog W .any base 42 v)
    (h : DataW.Trod enc Tryz.prog W 0 (fun _ => true) true 42 v d p) : ∃ (ad : Option Addr) (cap : Nat) (l : List (Int × Int × Int)), v = .slice ad l.length cap ∧ RdN W ad l ∧ (ad = none → cap = 0) ∧ l.length ≤ cap ∧ (l = [] ∨ ∃ E S, d = .slice E S ∧ E.length = l.length) := by
  obtain ⟨a0, len0, cap0, rfl⟩ := okWide_slice Tryz.underlying42 hval
  obtain ⟨fuel, hf⟩ := h
  rcases Deep.open_slice Tryz.underlying42 hf with ⟨hcs, _⟩ | ⟨a, len, cap, m, n, D, Pl, hcs, _, hlc, hcm, hmm, hx, hel⟩
  · simp [Value.cells] at hcs
    obtain ⟨rfl, rfl, rfl⟩ := hcs
    exact ⟨none, 0, [], rfl, fun h => absurd rfl h, fun _ => rfl, Nat.le_refl _, .inl rfl⟩
  · simp [Value.cells] at hcs
    obtain ⟨rfl, rfl, rfl⟩ := hcs
    have hm : m = cap0 := by simpa using hmm
    have each : ∀ i, i < len0 → ∃ x : Int × Int × Int, W.cell? (a.add (i * 3)) = some (.int .i64 x.1) ∧ W.cell? (a.add (i * 3 + 1)) = some (.int .i64 x.2.1) ∧ W.cell? (a.add (i * 3 + 2)) = some (.int .i64 x.2.2) := by
      intro i hi
      obtain ⟨cs, h1, h2⟩ := hel i (by omega)
      rw [cellsNM] at h1
      obtain ⟨_, hlen, hcell⟩ := World.cells?_some h1
      obtain ⟨o, t, k, rfl⟩ := one_nt hlen h2
      have e0 := hcell 0 (by omega)
      have e1 := hcell 1 (by omega)
      have e2 := hcell 2 (by omega)
      rw [Deep.add_add] at e0 e1 e2
      exact ⟨(o, t, k), by simpa using e0, by simpa using e1, by simpa using e2⟩
    obtain ⟨q, hq⟩ := Deep.choose_lt each
    refine ⟨some a, cap0, (List.range len0).map q, by simp, fun hne => ?_, (by intro e; cases e), (by simpa using hlc), .inr ⟨_, _, (Prod.mk.inj hx).1, by simp⟩⟩
    have hpos : 0 < len0 := by
      cases len0 with
      | zero => simp at hne
      | succ n => omega
    obtain ⟨b', off', x'⟩ := a
    have hx' : x' = none := by simpa [Addr.add] using World.cell?_spot (hq 0 hpos).1
    subst hx'
    have hadd : ∀ j, (⟨b', off', none⟩ : Addr).add j = ⟨b', off' + j, none⟩ := fun j => by unfold Addr.add; split <;> simp_all
    refine ⟨b', off', rfl, ?_, fun k y hy => ?_⟩
    · have := cell_ltM (hq 0 hpos).1
      rw [hadd] at this
      exact this
    · rw [List.getElem?_map] at hy
      obtain ⟨k', hk', rfl⟩ := Option.map_eq_some_iff.1 hy
      have hk := (List.getElem?_eq_some_iff.1 hk').1
      simp at hk
      have hkk : k' = k := by
        rw [List.getElem?_range hk] at hk'
        exact (Option.some.inj hk').symm
      subst hkk
      obtain ⟨c0, c1, c2⟩ := hq k' hk
      rw [hadd] at c0 c1 c2
      exact ⟨c0, by simpa [Nat.add_assoc] using c1, by simpa [Nat.add_assoc] using c2⟩
end Go.Proofs.YtnomeinppdnhfaaGreat
