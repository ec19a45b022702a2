/- SlotTurns: at every list of records: each Save that is done writes two sectors, of the slot that was not told; the seqs count up from 1; no condition. -/
import Derived.Test.YtnkdfpbgdimaoaaRows
import Derived.WalkKit
import Derived.ProofKit
import Derived.OpenShut
import Derived.Test.YtnkdfpbgdimaoaaLtl
namespace Go.Proofs.Ytnkdfpbgdimaoaa
open Go.ChangeShapes Go.WideShapes Go.ChangeAt Go.RowKit
set_option linter.unusedVariables false

theorem laidOut : laidOutB Try.prog = true := by kernel_rfl
theorem own : ownKnob Try.prog.godebug = none := by kernel_rfl
open Go.Shelf
/-- While it is looked whether all is as it should be. -/
def JT (w : World) (d : Dst) (x : Rec) (b off : Nat) (l : List Rec) (g : Nat) (u V : World) : Prop := Dk V w.heap.size d ∧ V.heap[g]? = some (.cells #[.int .i64 x.li, .int .i64 x.ro, .int .i64 x.ta] 23 (0, 0)) ∧ RecsAt V b off l ∧ Below u.heap.size u V
theorem mulK {P : Program} {t : TypeId} {x y : Operand} {w : World} {k : Nat} (h : k ≤ 100) : binRun P .mul t x y (.int .i64 2) (.int .i64 ((k : Int) + 1)) w = .ok (.int .i64 (2 * ((k : Int) + 1))) w := by
  have e : IntKind.i64.wrap (2 * ((k : Int) + 1)) = 2 * ((k : Int) + 1) := i64_id _ (by omega) (by omega)
  simp [binRun, go_sem, e]
theorem addK {P : Program} {t : TypeId} {x y : Operand} {w : World} {q : Nat} (h : q < 2) : binRun P .add t x y (.int .i64 (64 * (q : Int))) (.int .i64 64) w = .ok (.int .i64 (64 * (q : Int) + 64)) w := by
  have e : IntKind.i64.wrap (64 * (q : Int) + 64) = 64 * (q : Int) + 64 := i64_id _ (by omega) (by omega)
  simp [binRun, go_sem, e]
theorem lssK_t {P : Program} {t : TypeId} {x y : Operand} {w : World} {a b : Int} (h : a < b) : binRun P .lss t x y (.int .i64 a) (.int .i64 b) w = .ok (.bool true) w := by simp [binRun, go_sem, h]
theorem lssK_f {P : Program} {t : TypeId} {x y : Operand} {w : World} {a b : Int} (h : b ≤ a) : binRun P .lss t x y (.int .i64 a) (.int .i64 b) w = .ok (.bool false) w := by simp [binRun, go_sem, h]
theorem geqK_t {P : Program} {t : TypeId} {x y : Operand} {w : World} {a b : Int} (h : b ≤ a) : binRun P .geq t x y (.int .i64 a) (.int .i64 b) w = .ok (.bool true) w := by simp [binRun, go_sem, h]
theorem geqK_f {P : Program} {t : TypeId} {x y : Operand} {w : World} {a b : Int} (h : a < b) : binRun P .geq t x y (.int .i64 a) (.int .i64 b) w = .ok (.bool false) w := by simp [binRun, go_sem, h]
set_option maxHeartbeats 16000000 in
set_option maxRecDepth 100000 in
theorem walk (w : World) (ad0 : Option Addr) (cap0 : Nat) (l0 : List Rec) (w0 : RdR w ad0 l0) (hc0 : ad0 = none → cap0 = 0) :
    Calls Try.prog 5 #[.slice ad0 l0.length cap0] w fun e w' => e = .returned (.bool true) ∧ Below w.heap.size w w' := by
  have hal := alive_any
  have hmx : Try.prog.follows .mixedOrders = true := by kernel_rfl
  by_cases h40 : 40 < l0.length
  · have h40i : (40 : Int) < (l0.length : Int) := by omega
    go_enter Try.func5, Try.ntmps5
    go_wp2_with (go_at_call 8; (with_reducible refine (hal _).mono ?_); rintro e uv ⟨rfl, hbv⟩)
    go_ret
    exact ⟨rfl, hbv⟩
  have h40i : ¬ (40 : Int) < (l0.length : Int) := by omega
  have hl40 : l0.length ≤ 40 := by omega
  have hne := dnew_any w
  go_enter Try.func5, Try.ntmps5
  go_wp2_with (go_at_call 11; (with_reducible refine hne.mono ?_); rintro e u0 ⟨rfl, hD0, hlt0, hB0⟩)
  go_loopw [4, 5] (fun n i wz => ∃ (k m : Nat) (d : Dst) (r : Rec), n = .int .i64 (k : Int) ∧ i = .int .i64 (m : Int) ∧ m ≤ l0.length ∧ k ≤ m ∧ Dk wz w.heap.size d ∧ Sv d.l k r ∧ d.off = false ∧ d.fused = false ∧ d.writes = 2 * (k : Int) ∧ Below w.heap.size w wz) (fun _ i _ => l0.length - vnat i)
  case atStart => exact ⟨0, 0, d0, rec0, rfl, rfl, Nat.zero_le _, Nat.le_refl _, hD0, Sv.zero rec0, rfl, rfl, rfl, hB0⟩
  case round =>
    obtain ⟨k, m, d, r, rfl, rfl, hm, hkm, hD, hS, hoff, hfu, hwr, hB⟩ := hrel
    by_cases hml : m < l0.length
    · have hmi : (m : Int) < (l0.length : Int) := by omega
      obtain ⟨b, off, rfl, hbl, hat⟩ := w0 (fun e => by subst e; simp at hml)
      obtain ⟨x, hx⟩ : ∃ x, l0[m]? = some x := ⟨_, List.getElem?_eq_getElem hml⟩
      have HX : Hid (l0[m]? = some x) := hx
      have HL : Hid (d.l.length = 256) := hD.len
      have hfz : Fz d := fun q => by rw [hfu] at q; cases q
      have him1 := image_any hD
      have hkb : k ≤ 100 := by omega
      clear hx
      by_cases hmay : May x
      case neg =>
        have hsn : dSv d x = (1, d) := dSv_no hmay
        have HS : Hid (Sv d.l k r) := hS
        clear hS
        go_wp2_with (first | (go_at_call 16; (with_reducible refine him1.mono ?_); rintro e u1 ⟨gw, cw, rfl, ho1, hb1⟩; clear him1; obtain ⟨hatw, hgw1, hgw2⟩ := own_at ho1 HL.out.symm; have hB1 := hB.trans (hb1.mono hB.size); have hD1 := hD.carry hb1; obtain ⟨c0, c1, c2⟩ := (hat.carry hB1 hbl) m x HX.out; clear ho1; have hsv := save_any hD1 x hfz (by omega) (by omega); unfold rV at hsv; rw [hsn] at hsv) | (go_at_call 13; (with_reducible refine hsv.mono ?_); rintro e u2 ⟨rfl, hD2, ht2⟩; clear hsv; have hB2 : Below w.heap.size w u2 := hB1.trans (ht2.below (Nat.le_refl _) hB1.size)))
        go_roundw
        case rel => exact ⟨k, m + 1, d, r, rfl, by simp, by omega, by omega, hD2, HS.out, hoff, hfu, hwr, hB2⟩
        case measure => simp [vnat]; omega
      have hso : dSv d x = (0, ⟨put2 d.l (k % 2) (slB x ((k : Int) + 1)), false, false, d.fuse, 2 * ((k : Int) + 1)⟩) := by
        rw [hS.save hoff hmay (by omega), dW2_ok hoff (by omega) (slB_len _ _) (fun q => by rw [hfu] at q; cases q), hfu, hwr]
        congr 2 <;> omega
      have hS2 := hS.step hmay (show k ≤ 1000 by omega)
      have hpg : ∀ j, (j < 64 * (k % 2) ∨ 64 * (k % 2) + 64 ≤ j) → (put2 d.l (k % 2) (slB x ((k : Int) + 1)))[j]? = d.l[j]? := fun j hj => put2_get HL.out (slB_len _ _) (by omega) hj
      obtain ⟨L2, hL2⟩ : ∃ L2, put2 d.l (k % 2) (slB x ((k : Int) + 1)) = L2 := ⟨_, rfl⟩
      rw [hL2] at hso hS2 hpg
      obtain ⟨d2, hd2⟩ : ∃ d2 : Dst, (⟨L2, false, false, d.fuse, 2 * ((k : Int) + 1)⟩ : Dst) = d2 := ⟨_, rfl⟩
      have hd2l : d2.l = L2 := by rw [← hd2]
      have hd2o : d2.off = false := by rw [← hd2]
      have hd2f : d2.fused = false := by rw [← hd2]
      have hd2w : d2.writes = 2 * ((k : Int) + 1) := by rw [← hd2]
      rw [hd2] at hso
      clear hd2 hL2
      have hnt : nwT d2 = ⟨x, (k : Int) + 1, ((k + 1 + 1) % 2 : Nat), 0⟩ := by
        rw [Sv.nt (d := d2) (by rw [hd2l]; exact hS2) hd2o, if_neg (by omega)]
        congr 1
      have HPG : Hid (∀ j, (j < 64 * (k % 2) ∨ 64 * (k % 2) + 64 ≤ j) → L2[j]? = d.l[j]?) := hpg
      have HSV : Hid (Sv d2.l (k + 1) x) := by show Sv d2.l (k + 1) x; rw [hd2l]; exact hS2
      have HL2 : Hid (L2.length = 256) := hS2.len
      clear hS hS2 hpg
      go_wp2_with (first | (go_at_call 16; (with_reducible refine him1.mono ?_); rintro e u1 ⟨gw, cw, rfl, ho1, hb1⟩; clear him1; obtain ⟨hatw, hgw1, hgw2⟩ := own_at ho1 HL.out.symm; have hB1 := hB.trans (hb1.mono hB.size); have hD1 := hD.carry hb1; obtain ⟨c0, c1, c2⟩ := (hat.carry hB1 hbl) m x HX.out; clear ho1; have hsv := save_any hD1 x hfz (by omega) (by omega); unfold rV at hsv; rw [hso] at hsv) | (go_at_call 13; (with_reducible refine hsv.mono ?_); rintro e u2 ⟨rfl, hD2, ht2⟩; clear hsv; have hB2 : Below w.heap.size w u2 := hB1.trans (ht2.below (Nat.le_refl _) hB1.size); have him2 := image_any hD2; have hatw2 : BAt u2 gw 0 d.l := hatw.carry (ht2.block gw hgw1 (by have := hB.size; have := hD.lt; omega)); have hgw22 : gw < u2.heap.size := Nat.lt_of_lt_of_le hgw1 ht2.size) | (go_at_call 16; (with_reducible refine him2.mono ?_); rintro e u3 ⟨gn, cn, rfl, ho3, hb3⟩; clear him2; rw [hd2l] at ho3; obtain ⟨hatn, hgn1, hgn2⟩ := own_at ho3 HL2.out.symm; clear ho3; have hB3 := hB2.trans (hb3.mono hB2.size); have hD3 := hD2.carry hb3; have hatw3 : BAt u3 gw 0 d.l := (hatw2.carry (hb3.block gw hgw22)); have hgw3 : gw < u3.heap.size := Nat.lt_of_lt_of_le hgw22 hb3.size; have hld := load_any hD3; rw [hnt] at hld; unfold ldV rV at hld; dsimp only at hld) | (go_at_call 15; (with_reducible refine hld.mono ?_); rintro e u4 ⟨rfl, hb4⟩; obtain ⟨u5, hu5⟩ : ∃ u5, u4.alloc (.cells #[.int .i64 x.li, .int .i64 x.ro, .int .i64 x.ta] 23) = u5 := ⟨_, rfl⟩; have hb5 : Below u3.heap.size u3 u5 := (by rw [← hu5]; exact bel2 hb4 (al1' _ _)); have hx5 : u5.heap[u4.heap.size]? = some (.cells #[.int .i64 x.li, .int .i64 x.ro, .int .i64 x.ta] 23 (0, 0)) := (by rw [← hu5]; exact new_at rfl); have hB5 := hB3.trans (hb5.mono hB3.size); have hD5 := hD3.carry hb5; have hatw5 : BAt u5 gw 0 d.l := hatw3.carry (hb5.block gw hgw3); have hatn5 : BAt u5 gn 0 L2 := hatn.carry (hb5.block gn hgn1); have hgw5 : gw < u5.heap.size := Nat.lt_of_lt_of_le hgw3 hb5.size; have hgn5 : gn < u5.heap.size := Nat.lt_of_lt_of_le hgn1 hb5.size; have hat5 := hat.carry hB5 hbl))
      rename_i hK
      refine wp_region_any hmx ?_
      refine wpAny_pure (fun i__ => ([(.int .i64 0), (.bool false), (.bool false), (.int .i64 0), (.bool false), (.bool false), (.bool false), (.int .i64 ((k : Int) + 1)), (.int .i64 ((k : Int) + 1)), (.bool false), (.bool false), (.bool false), (rV x), (.slice (some ⟨b, off, none⟩) l0.length cap0), (.int .i64 (m : Int)), (.pointer (some ⟨b, off + m * 3, none⟩)), (rV x), (.bool false), (.bool false), (.bool false), (.pointer (some ⟨w.heap.size, 0, none⟩)), (.int .i64 (2 * ((k : Int) + 1))), (.int .i64 ((k : Int) + 1)), (.int .i64 (2 * ((k : Int) + 1))), (.bool false), (.bool false), (.bool false), (.slice (some ⟨gn, 0, none⟩) 256 cn), (.int .i64 256), (.bool false), (.bool false), (.bool false), (.slice (some ⟨gw, 0, none⟩) 256 cw), (.int .i64 256), (.bool false), (.bool false)] : List Value).getD i__ undef) (JT w d2 x b off l0 u4.heap.size u5) (by kernel_rfl) ⟨hD5.carry (Below.refl _ _).drew, hx5, hat5, (Below.refl _ _).drew⟩ ?_ ?_
      · refine (stepsFrom_cons ?_ (stepsFrom_cons ?_ (stepsFrom_cons ?_ (stepsFrom_cons ?_ (stepsFrom_cons ?_ (stepsFrom_cons ?_ (stepsFrom_cons ?_ (stepsFrom_cons ?_ (stepsFrom_cons ?_ (stepsFrom_cons ?_ (stepsFrom_cons ?_ (stepsFrom_cons ?_ (stepsFrom_cons ?_ (stepsFrom_cons ?_ (stepsFrom_cons ?_ (stepsFrom_cons ?_ (stepsFrom_cons ?_ (stepsFrom_cons ?_ (stepsFrom_cons ?_ (stepsFrom_cons ?_ (stepsFrom_cons ?_ (stepsFrom_cons ?_ (stepsFrom_cons ?_ (stepsFrom_cons ?_ (stepsFrom_cons ?_ (stepsFrom_cons ?_ (stepsFrom_cons ?_ (stepsFrom_cons ?_ (stepsFrom_cons ?_ (stepsFrom_cons ?_ (stepsFrom_cons ?_ (stepsFrom_cons ?_ (stepsFrom_cons ?_ (stepsFrom_cons ?_ (stepsFrom_cons ?_ (stepsFrom_cons ?_ trivial))))))))))))))))))))))))))))))))))))
        · exact step_move rfl trivial _ rfl (by kernel_rfl)
        · exact step_binOp rfl trivial _ _ _ _ _ _ _ rfl rfl rfl (fun v hw => neqK_f _ _)
        · exact step_move rfl trivial _ rfl (by kernel_rfl)
        · exact step_move rfl (by exact ⟨_, rfl, by kernel_rfl⟩) _ rfl (by kernel_rfl)
        · exact step_binOp rfl (by exact ⟨_, rfl, by kernel_rfl⟩) _ _ _ _ _ _ _ rfl rfl rfl (fun v hw => neqK_f _ _)
        · exact step_pick rfl trivial _ _ _ false rfl (by kernel_rfl) (by kernel_rfl)
        · exact step_move rfl trivial _ rfl (by kernel_rfl)
        · exact step_move rfl (by exact ⟨_, rfl, by kernel_rfl⟩) _ rfl (by kernel_rfl)
        · exact step_move rfl (by exact ⟨_, rfl, by kernel_rfl⟩) _ rfl (by kernel_rfl)
        · exact step_binOp rfl (by exact ⟨_, rfl, by kernel_rfl⟩) _ _ _ _ _ _ _ rfl rfl rfl (fun v hw => neqK_f _ _)
        · exact step_pick rfl trivial _ _ _ false rfl (by kernel_rfl) (by kernel_rfl)
        · exact step_move rfl trivial _ rfl (by kernel_rfl)
        · exact step_load rfl (by exact ⟨_, rfl, by kernel_rfl⟩) _ _ _ rfl rfl (fun v hw => load_rec hw.2.1)
        · exact step_move rfl (by exact ⟨_, rfl, by kernel_rfl⟩) _ rfl (by kernel_rfl)
        · exact step_move rfl (by exact ⟨_, rfl, by kernel_rfl⟩) _ rfl (by kernel_rfl)
        · exact step_indexAddr rfl (by exact ⟨_, rfl, by kernel_rfl⟩) _ _ _ _ _ rfl rfl rfl (fun v hw => idx_recs b off _ _ m hml v)
        · exact step_load rfl (by exact ⟨_, rfl, by kernel_rfl⟩) _ _ _ rfl rfl (fun v hw => load_recs hw.2.2.1 HX.out)
        · exact step_binOp rfl (by exact ⟨_, rfl, by kernel_rfl⟩) _ _ _ _ _ _ _ rfl rfl rfl (fun v hw => neqR_f x)
        · exact step_pick rfl trivial _ _ _ false rfl (by kernel_rfl) (by kernel_rfl)
        · exact step_move rfl trivial _ rfl (by kernel_rfl)
        · exact step_move rfl (by exact ⟨_, rfl, by kernel_rfl⟩) _ rfl (by kernel_rfl)
        · exact step_call rfl (by exact ⟨_, rfl, by kernel_rfl⟩) 17 _ _ [(.pointer (some ⟨w.heap.size, 0, none⟩))] rfl (by kernel_rfl) (enters_of Try.func17 (by kernel_rfl) rfl) (fun v hw => (writes_any hw.1).mono (by rintro e w' ⟨rfl, rfl⟩; exact ⟨by rw [hd2w]; rfl, hw⟩))
        · exact step_move rfl (by exact ⟨_, rfl, by kernel_rfl⟩) _ rfl (by kernel_rfl)
        · exact step_binOp rfl (by exact ⟨_, rfl, by kernel_rfl⟩) _ _ _ _ _ _ _ rfl rfl rfl (fun v hw => by simpa using mulK hkb)
        · exact step_binOp rfl (by exact ⟨_, rfl, by kernel_rfl⟩) _ _ _ _ _ _ _ rfl rfl rfl (fun v hw => neqK_f _ _)
        · exact step_pick rfl trivial _ _ _ false rfl (by kernel_rfl) (by kernel_rfl)
        · exact step_move rfl trivial _ rfl (by kernel_rfl)
        · exact step_move rfl (by exact ⟨_, rfl, by kernel_rfl⟩) _ rfl (by kernel_rfl)
        · exact step_bi rfl (by exact ⟨_, rfl, by kernel_rfl⟩) _ _ _ [(.slice (some ⟨gn, 0, none⟩) 256 cn)] rfl (by kernel_rfl) (fun bs v hw => bi_lenb _ bs _ _ _ v)
        · exact step_binOp rfl (by exact ⟨_, rfl, by kernel_rfl⟩) _ _ _ _ _ _ _ rfl rfl rfl (fun v hw => neqK_f _ _)
        · exact step_pick rfl trivial _ _ _ false rfl (by kernel_rfl) (by kernel_rfl)
        · exact step_move rfl trivial _ rfl (by kernel_rfl)
        · exact step_move rfl (by exact ⟨_, rfl, by kernel_rfl⟩) _ rfl (by kernel_rfl)
        · exact step_bi rfl (by exact ⟨_, rfl, by kernel_rfl⟩) _ _ _ [(.slice (some ⟨gw, 0, none⟩) 256 cw)] rfl (by kernel_rfl) (fun bs v hw => bi_lenb _ bs _ _ _ v)
        · exact step_binOp rfl (by exact ⟨_, rfl, by kernel_rfl⟩) _ _ _ _ _ _ _ rfl rfl rfl (fun v hw => neqK_f _ _)
        · exact step_pick rfl trivial _ _ _ false rfl (by kernel_rfl) (by kernel_rfl)
      intro W hW
      first | refine hK _ _ ?_ | refine (‹∀ (a : Act) (w : World), Code.wp Try.prog _ _ a w → _›) _ _ ?_
      simp only [finL, List.getD_cons_zero, List.getD_cons_succ, Nat.zero_add, Nat.reduceAdd, List.setIfInBounds_toArray, List.set_cons_zero, List.set_cons_succ]
      obtain ⟨hD6, hx6, hat6, hb6⟩ := hW
      have hB6 := hB5.trans (hb6.mono hB5.size)
      have hatw6 : BAt W gw 0 d.l := hatw5.carry (hb6.block gw hgw5)
      have hatn6 : BAt W gn 0 L2 := hatn5.carry (hb6.block gn hgn5)
      have hgw6 : gw < W.heap.size := Nat.lt_of_lt_of_le hgw5 hb6.size
      have hgn6 : gn < W.heap.size := Nat.lt_of_lt_of_le hgn5 hb6.size
      clear hK
      have htm : ((k : Int)).tmod 2 = ((k % 2 : Nat) : Int) := by rw [Int.tmod_eq_emod_of_nonneg (by omega)]; omega
      have hk2 : k % 2 < 2 := Nat.mod_lt _ (by omega)
      obtain ⟨q, hq⟩ : ∃ q, k % 2 = q := ⟨_, rfl⟩
      rw [hq] at htm hk2
      have HPG2 : Hid (∀ j, (j < 64 * q ∨ 64 * q + 64 ≤ j) → L2[j]? = d.l[j]?) := by rw [← hq]; exact HPG.out
      clear HPG hq hatw5 hatn5 hat5 hx5 hD5
      go_wp2
      go_loopw [13] (fun i wz => ∃ j : Nat, i = .int .i64 (j : Int) ∧ j ≤ 256 ∧ Below W.heap.size W wz) (fun i _ => 256 - vnat i)
      case atStart => exact ⟨0, rfl, by omega, Below.refl _ _⟩
      case round =>
        obtain ⟨j, rfl, hj, hbj⟩ := hrel
        by_cases hj2 : j < 256
        · have hji : (j : Int) < 256 := by omega
          obtain ⟨y, hy⟩ : ∃ y, d.l[j]? = some y := get_lt (by rw [HL.out]; exact hj2)
          have HY : Hid (d.l[j]? = some y) := hy
          clear hy
          by_cases q1 : j < 64 * q
          · go_wp2
            rename_i hK
            refine wp_region_any hmx ?_
            refine wpAny_pure (fun i__ => ([(.int .i64 (j : Int)), (.int .i64 (64 * (q : Int))), (.bool true), (.bool true), undef, undef, undef, undef, (.bool true), (.bool true), (.slice (some ⟨gw, 0, none⟩) 256 cw), (.int .i64 (j : Int)), (.pointer (some ⟨gw, 0 + j, none⟩)), (.int .u8 (y : Int)), (.slice (some ⟨gn, 0, none⟩) 256 cn), (.int .i64 (j : Int)), (.pointer (some ⟨gn, 0 + j, none⟩)), (.int .u8 (y : Int)), (.bool false), (.bool false)] : List Value).getD i__ undef) (fun V => Below W.heap.size W V) (by kernel_rfl) (hbj.drew) ?_ ?_
            · refine (stepsFrom_cons ?_ (stepsFrom_cons ?_ (stepsFrom_cons ?_ (stepsFrom_cons ?_ (stepsFrom_cons ?_ (stepsFrom_cons ?_ (stepsFrom_cons ?_ (stepsFrom_cons ?_ (stepsFrom_cons ?_ (stepsFrom_cons ?_ (stepsFrom_cons ?_ (stepsFrom_cons ?_ (stepsFrom_cons ?_ (stepsFrom_cons ?_ (stepsFrom_cons ?_ (stepsFrom_cons ?_ (stepsFrom_cons ?_ (stepsFrom_cons ?_ (stepsFrom_cons ?_ (stepsFrom_cons ?_ trivial))))))))))))))))))))
              · exact step_move rfl trivial _ rfl (by kernel_rfl)
              · exact step_move rfl trivial _ rfl (by kernel_rfl)
              · exact step_binOp rfl trivial _ _ _ _ _ _ _ rfl rfl rfl (fun v hw => lssK_t (by omega))
              · exact step_move rfl trivial _ rfl (by kernel_rfl)
              · exact step_skip rfl 3 false 92 (.bool true) rfl rfl (by kernel_rfl) (by intro h; cases h) rfl
              · exact step_skip rfl 3 false 92 (.bool true) rfl rfl (by kernel_rfl) (by intro h; cases h) rfl
              · exact step_skip rfl 3 false 92 (.bool true) rfl rfl (by kernel_rfl) (by intro h; cases h) rfl
              · exact step_skip rfl 3 false 92 (.bool true) rfl rfl (by kernel_rfl) (by intro h; cases h) rfl
              · exact step_pick rfl trivial _ _ _ true rfl (by kernel_rfl) (by kernel_rfl)
              · exact step_move rfl trivial _ rfl (by kernel_rfl)
              · exact step_move rfl (by exact ⟨_, rfl, by kernel_rfl⟩) _ rfl (by kernel_rfl)
              · exact step_move rfl (by exact ⟨_, rfl, by kernel_rfl⟩) _ rfl (by kernel_rfl)
              · exact step_indexAddr rfl (by exact ⟨_, rfl, by kernel_rfl⟩) _ _ _ _ _ rfl rfl rfl (fun v hw => idx_bz gw 0 _ _ j hj2 v)
              · exact step_load rfl (by exact ⟨_, rfl, by kernel_rfl⟩) _ _ _ rfl rfl (fun v hw => load_u8 ((hatw6.carry (hw.block gw hgw6)) j y HY.out))
              · exact step_move rfl (by exact ⟨_, rfl, by kernel_rfl⟩) _ rfl (by kernel_rfl)
              · exact step_move rfl (by exact ⟨_, rfl, by kernel_rfl⟩) _ rfl (by kernel_rfl)
              · exact step_indexAddr rfl (by exact ⟨_, rfl, by kernel_rfl⟩) _ _ _ _ _ rfl rfl rfl (fun v hw => idx_bz gn 0 _ _ j hj2 v)
              · exact step_load rfl (by exact ⟨_, rfl, by kernel_rfl⟩) _ _ _ rfl rfl (fun v hw => load_u8 ((hatn6.carry (hw.block gn hgn6)) j y ((HPG2.out j (by omega)).trans HY.out)))
              · exact step_binOp rfl (by exact ⟨_, rfl, by kernel_rfl⟩) _ _ _ _ _ _ _ rfl rfl rfl (fun v hw => neqK_f _ _)
              · exact step_pick rfl trivial _ _ _ true rfl (by kernel_rfl) (by kernel_rfl)
            intro W hW
            first | refine hK _ _ ?_ | refine (‹∀ (a : Act) (w : World), Code.wp Try.prog _ _ a w → _›) _ _ ?_
            simp only [finL, List.getD_cons_zero, List.getD_cons_succ, Nat.zero_add, Nat.reduceAdd, List.setIfInBounds_toArray, List.set_cons_zero, List.set_cons_succ]
            clear hK
            go_wp2
            go_roundw
            case rel => exact ⟨j + 1, by simp, by omega, hW⟩
            case measure => simp [vnat]; omega
          by_cases q2 : 64 * q + 64 ≤ j
          · go_wp2
            rename_i hK
            refine wp_region_any hmx ?_
            refine wpAny_pure (fun i__ => ([(.int .i64 (j : Int)), (.int .i64 (64 * (q : Int))), (.bool false), (.bool false), (.int .i64 (j : Int)), (.int .i64 (64 * (q : Int))), (.int .i64 (64 * (q : Int) + 64)), (.bool true), (.bool true), (.bool true), (.slice (some ⟨gw, 0, none⟩) 256 cw), (.int .i64 (j : Int)), (.pointer (some ⟨gw, 0 + j, none⟩)), (.int .u8 (y : Int)), (.slice (some ⟨gn, 0, none⟩) 256 cn), (.int .i64 (j : Int)), (.pointer (some ⟨gn, 0 + j, none⟩)), (.int .u8 (y : Int)), (.bool false), (.bool false)] : List Value).getD i__ undef) (fun V => Below W.heap.size W V) (by kernel_rfl) (hbj.drew) ?_ ?_
            · refine (stepsFrom_cons ?_ (stepsFrom_cons ?_ (stepsFrom_cons ?_ (stepsFrom_cons ?_ (stepsFrom_cons ?_ (stepsFrom_cons ?_ (stepsFrom_cons ?_ (stepsFrom_cons ?_ (stepsFrom_cons ?_ (stepsFrom_cons ?_ (stepsFrom_cons ?_ (stepsFrom_cons ?_ (stepsFrom_cons ?_ (stepsFrom_cons ?_ (stepsFrom_cons ?_ (stepsFrom_cons ?_ (stepsFrom_cons ?_ (stepsFrom_cons ?_ (stepsFrom_cons ?_ (stepsFrom_cons ?_ trivial))))))))))))))))))))
              · exact step_move rfl trivial _ rfl (by kernel_rfl)
              · exact step_move rfl trivial _ rfl (by kernel_rfl)
              · exact step_binOp rfl trivial _ _ _ _ _ _ _ rfl rfl rfl (fun v hw => lssK_f (by omega))
              · exact step_move rfl trivial _ rfl (by kernel_rfl)
              · exact step_move rfl (by exact ⟨_, rfl, by kernel_rfl⟩) _ rfl (by kernel_rfl)
              · exact step_move rfl (by exact ⟨_, rfl, by kernel_rfl⟩) _ rfl (by kernel_rfl)
              · exact step_binOp rfl (by exact ⟨_, rfl, by kernel_rfl⟩) _ _ _ _ _ _ _ rfl rfl rfl (fun v hw => addK (by omega))
              · exact step_binOp rfl (by exact ⟨_, rfl, by kernel_rfl⟩) _ _ _ _ _ _ _ rfl rfl rfl (fun v hw => geqK_t (by omega))
              · exact step_pick rfl trivial _ _ _ false rfl (by kernel_rfl) (by kernel_rfl)
              · exact step_move rfl trivial _ rfl (by kernel_rfl)
              · exact step_move rfl (by exact ⟨_, rfl, by kernel_rfl⟩) _ rfl (by kernel_rfl)
              · exact step_move rfl (by exact ⟨_, rfl, by kernel_rfl⟩) _ rfl (by kernel_rfl)
              · exact step_indexAddr rfl (by exact ⟨_, rfl, by kernel_rfl⟩) _ _ _ _ _ rfl rfl rfl (fun v hw => idx_bz gw 0 _ _ j hj2 v)
              · exact step_load rfl (by exact ⟨_, rfl, by kernel_rfl⟩) _ _ _ rfl rfl (fun v hw => load_u8 ((hatw6.carry (hw.block gw hgw6)) j y HY.out))
              · exact step_move rfl (by exact ⟨_, rfl, by kernel_rfl⟩) _ rfl (by kernel_rfl)
              · exact step_move rfl (by exact ⟨_, rfl, by kernel_rfl⟩) _ rfl (by kernel_rfl)
              · exact step_indexAddr rfl (by exact ⟨_, rfl, by kernel_rfl⟩) _ _ _ _ _ rfl rfl rfl (fun v hw => idx_bz gn 0 _ _ j hj2 v)
              · exact step_load rfl (by exact ⟨_, rfl, by kernel_rfl⟩) _ _ _ rfl rfl (fun v hw => load_u8 ((hatn6.carry (hw.block gn hgn6)) j y ((HPG2.out j (by omega)).trans HY.out)))
              · exact step_binOp rfl (by exact ⟨_, rfl, by kernel_rfl⟩) _ _ _ _ _ _ _ rfl rfl rfl (fun v hw => neqK_f _ _)
              · exact step_pick rfl trivial _ _ _ true rfl (by kernel_rfl) (by kernel_rfl)
            intro W hW
            first | refine hK _ _ ?_ | refine (‹∀ (a : Act) (w : World), Code.wp Try.prog _ _ a w → _›) _ _ ?_
            simp only [finL, List.getD_cons_zero, List.getD_cons_succ, Nat.zero_add, Nat.reduceAdd, List.setIfInBounds_toArray, List.set_cons_zero, List.set_cons_succ]
            clear hK
            go_wp2
            go_roundw
            case rel => exact ⟨j + 1, by simp, by omega, hW⟩
            case measure => simp [vnat]; omega
          · go_wp2
            rename_i hK
            refine wp_region_any hmx ?_
            refine wpAny_pure (fun i__ => ([(.int .i64 (j : Int)), (.int .i64 (64 * (q : Int))), (.bool false), (.bool false), (.int .i64 (j : Int)), (.int .i64 (64 * (q : Int))), (.int .i64 (64 * (q : Int) + 64)), (.bool false), (.bool false), (.bool false), undef, undef, undef, undef, undef, undef, undef, undef, undef, (.bool false)] : List Value).getD i__ undef) (fun V => Below W.heap.size W V) (by kernel_rfl) (hbj.drew) ?_ ?_
            · refine (stepsFrom_cons ?_ (stepsFrom_cons ?_ (stepsFrom_cons ?_ (stepsFrom_cons ?_ (stepsFrom_cons ?_ (stepsFrom_cons ?_ (stepsFrom_cons ?_ (stepsFrom_cons ?_ (stepsFrom_cons ?_ (stepsFrom_cons ?_ (stepsFrom_cons ?_ (stepsFrom_cons ?_ (stepsFrom_cons ?_ (stepsFrom_cons ?_ (stepsFrom_cons ?_ (stepsFrom_cons ?_ (stepsFrom_cons ?_ (stepsFrom_cons ?_ (stepsFrom_cons ?_ (stepsFrom_cons ?_ trivial))))))))))))))))))))
              · exact step_move rfl trivial _ rfl (by kernel_rfl)
              · exact step_move rfl trivial _ rfl (by kernel_rfl)
              · exact step_binOp rfl trivial _ _ _ _ _ _ _ rfl rfl rfl (fun v hw => lssK_f (by omega))
              · exact step_move rfl trivial _ rfl (by kernel_rfl)
              · exact step_move rfl (by exact ⟨_, rfl, by kernel_rfl⟩) _ rfl (by kernel_rfl)
              · exact step_move rfl (by exact ⟨_, rfl, by kernel_rfl⟩) _ rfl (by kernel_rfl)
              · exact step_binOp rfl (by exact ⟨_, rfl, by kernel_rfl⟩) _ _ _ _ _ _ _ rfl rfl rfl (fun v hw => addK (by omega))
              · exact step_binOp rfl (by exact ⟨_, rfl, by kernel_rfl⟩) _ _ _ _ _ _ _ rfl rfl rfl (fun v hw => geqK_f (by omega))
              · exact step_pick rfl trivial _ _ _ false rfl (by kernel_rfl) (by kernel_rfl)
              · exact step_move rfl trivial _ rfl (by kernel_rfl)
              · exact step_skip rfl 9 true 98 (.bool false) rfl rfl (by kernel_rfl) (by intro h; cases h) rfl
              · exact step_skip rfl 9 true 98 (.bool false) rfl rfl (by kernel_rfl) (by intro h; cases h) rfl
              · exact step_skip rfl 9 true 98 (.bool false) rfl rfl (by kernel_rfl) (by intro h; cases h) rfl
              · exact step_skip rfl 9 true 98 (.bool false) rfl rfl (by kernel_rfl) (by intro h; cases h) rfl
              · exact step_skip rfl 9 true 98 (.bool false) rfl rfl (by kernel_rfl) (by intro h; cases h) rfl
              · exact step_skip rfl 9 true 98 (.bool false) rfl rfl (by kernel_rfl) (by intro h; cases h) rfl
              · exact step_skip rfl 9 true 98 (.bool false) rfl rfl (by kernel_rfl) (by intro h; cases h) rfl
              · exact step_skip rfl 9 true 98 (.bool false) rfl rfl (by kernel_rfl) (by intro h; cases h) rfl
              · exact step_skip rfl 9 true 98 (.bool false) rfl rfl (by kernel_rfl) (by intro h; cases h) rfl
              · exact step_pick rfl trivial _ _ _ false rfl (by kernel_rfl) (by kernel_rfl)
            intro W hW
            first | refine hK _ _ ?_ | refine (‹∀ (a : Act) (w : World), Code.wp Try.prog _ _ a w → _›) _ _ ?_
            simp only [finL, List.getD_cons_zero, List.getD_cons_succ, Nat.zero_add, Nat.reduceAdd, List.setIfInBounds_toArray, List.set_cons_zero, List.set_cons_succ]
            clear hK
            go_wp2
            go_roundw
            case rel => exact ⟨j + 1, by simp, by omega, hW⟩
            case measure => simp [vnat]; omega
        · have hj3 : j = 256 := by omega
          subst hj3
          go_wp2
          go_roundw
          case rel => exact ⟨k + 1, m + 1, d2, x, by simp, by simp, by omega, by omega, hD6.carry hbj, HSV.out, hd2o, hd2f, by rw [hd2w]; omega, hB6.trans (hbj.mono hB6.size)⟩
          case measure => simp [vnat]; omega
    · have hmi : ¬ (m : Int) < (l0.length : Int) := by omega
      go_wp2_with (go_at_call 8; (with_reducible refine (hal _).mono ?_); rintro e uv ⟨rfl, hbv⟩)
      go_ret
      exact ⟨rfl, hB.trans (hbv.mono hB.size)⟩

set_option maxRecDepth 100000 in
theorem lifted (os : Os) (started : os.Started) (H : Type) (enc : TypeId × Value → H) :
    ReturnsInHanded {} Try.checked os 5 .any (Rows.slotTurnsSpec.pre6 enc Try.prog Try.f5 Rows.slotTurnsRow.domain false) (Rows.slotTurnsSpec.post enc Try.prog Try.f5 false true false false) := by
  refine returnsInHanded_of_change (C := Try.checked) own started (by kernel_rfl) Try.func5
    (ChangeSpec.witness6 (enc := enc) (C := Try.checked) false ⟨#[], #[.slice none 0 0], []⟩ 8 (by kernel_rfl) (by kernel_rfl) (by kernel_rfl) (by kernel_rfl)) ?_
  intro W base args ds gs before hval0 hW hcnd _
  have hval : ∀ (j : Nat) t v, Try.f5.params[j]? = some t → args[j]? = some v → Value.okWide Try.prog W .any base t v := hval0
  have hW' := hW
  obtain ⟨p, q, hA0, hV, rfl, hfz, hnd⟩ := hW
  have hA : DataW.TrodAll enc Try.prog W 0 (fun _ => true) true Try.f5.params.toList args.toList ds p := hA0
  rw [Try.params5] at hA hval
  obtain ⟨v0, vs0, d0, ds0, p0, q0, hargs, rfl, rfl, h0, r0⟩ := trodAll_cons hA
  obtain ⟨rfl, rfl, rfl⟩ := trodAll_nil r0
  obtain rfl : args = #[v0] := by cases args; simp_all
  obtain ⟨rfl, rfl⟩ := trodVars_none hV
  have k0 := h0
  have lt0 : ∀ x ∈ p0, x.block < W.heap.size := by obtain ⟨m, hm⟩ := k0; exact DataW.trod_lt m _ _ _ hm
  obtain ⟨ad0, cap0, l0, rfl, w0, hc0, hd0⟩ := open_recs (hval 0 33 v0 rfl rfl) h0
  clear hA0 hval0
  refine (walk W ad0 cap0 l0 w0 hc0).mono fun e W' ⟨he, hg⟩ => ?_
  subst he
  exact ⟨_, rfl, _, _, _, [], _, [], hW', (trodAll_cons_mk (shut_bool Try.underlying4 _) trodAll_mk0), (trodAll_cons_mk (Below.trod laidOut (by kernel_rfl) (of_decide_eq_true (by kernel_rfl)) k0 hg lt0) trodAll_mk0), rfl, hg.frame _, fun h => by cases h⟩

theorem over : Rows.slotTurnsRow.holds Try.pinned (OpenSpec.ofChange Rows.slotTurnsSpec) :=
  OpenClaim.holds_of_wide 5 Try.f5 rfl rfl rfl rfl rfl rfl rfl ⟨rfl, rfl, rfl, rfl, rfl⟩ rfl rfl rfl rfl rfl (by kernel_rfl) Try.func5 (by kernel_rfl)
    (of_decide_eq_true (by kernel_rfl)) (by unfold Func.isWrapper; first | (rw [if_pos (by decide +kernel)]; kernel_rfl) | (rw [if_neg (by decide +kernel)]; exact ⟨rfl, rfl⟩))
    (fun os started H enc _ => lifted os started H enc)

theorem proved : Rows.SlotTurnsSaid :=
  over
#print axioms proved
end Go.Proofs.Ytnkdfpbgdimaoaa
