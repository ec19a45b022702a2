/- InferBegun (promise P1403): what is doubted is suspected, once it is taken, and is doubted no more; nothing else changes. For every book that New makes, every list of at most 300 notices that is merged, and every set; else alive alone. -/
import Derived.Test.YtgehmidalfajgaaDoorRows
import Derived.WalkKit
import Derived.ProofKit
import Derived.OpenShut
import Derived.Stop.Joined
import Derived.Lay
import Derived.SevenTiedAt
import Derived.SizedLaws
import Derived.LaidMore
import Derived.Test.YtgehmidalfajgaaDoorTie
import Derived.Test.YtgehmidalfajgaaDoorCards
import Derived.Test.YtgehmidalfajgaaDoorInferBegunJ12
import Derived.Test.YtgehmidalfajgaaDoorInferBegunJ10
namespace Go.Proofs.YtgehmidalfajgaaDoor
open Go.ChangeShapes Go.WideShapes Go.ChangeAt Go.RowKit
set_option linter.unusedVariables false

theorem laidOut : laidOutB Tryd.prog = true := by kernel_rfl
theorem own : ownKnob Tryd.prog.godebug = none := by kernel_rfl
open Go.Shelf
set_option maxHeartbeats 32000000 in
set_option maxRecDepth 100000 in
theorem walk (w : World) (a0 : Int) (w0 : (Lit.int .i64 a0).wf = true) (a1 : Int) (w1 : (Lit.int .i64 a1).wf = true) (a2 : Int) (w2 : (Lit.int .i64 a2).wf = true) (ad3 : Option Addr) (cap3 : Nat) (l3 : List (Int × Int × Int)) (w3 : RdN w ad3 l3) (hc3 : ad3 = none → cap3 = 0) (hq3 : l3.length ≤ cap3) (N4 : Nat) (hN4 : N4 < S128) (hL : laidMetH Tryd.prog Rows.inferBegunRow.laid w) :
    Calls Tryd.prog 4 #[.int .i64 a0, .int .i64 a1, .int .i64 a2, .slice ad3 l3.length cap3, sv N4] w fun e w' => e = .returned (.bool true) ∧ Below w.heap.size w w' := by
  have hmx : Tryd.prog.follows .mixedOrders = true := by kernel_rfl
  obtain ⟨w1, hw1⟩ : ∃ w1, w.alloc (.cells #[.int .u32 (wd N4 0 : Nat), .int .u32 (wd N4 1 : Nat), .int .u32 (wd N4 2 : Nat), .int .u32 (wd N4 3 : Nat)] 27) = w1 := ⟨_, rfl⟩
  have hb1 : Below w.heap.size w w1 := by rw [← hw1]; exact al1' _ _
  have hs1 : w1.heap.size = w.heap.size + 1 := by rw [← hw1]; simp
  have G1 : Hid (Holds4 w1 w.heap.size (wd N4)) := by rw [← hw1]; exact new_at rfl
  have hT := tab_of hL
  have hnw := new_any a0 a1 a2 w1
  by_cases hok : ¬ (a0 < 1 ∨ 100 < a0) ∧ ¬ (a1 < 0 ∨ a0 ≤ a1) ∧ ¬ (a2 < 0 ∨ 1048576 < a2)
  case neg =>
    simp only [sv]
    go_enter Tryd.func4, Tryd.ntmps4
    go_wp2_with (first
      | (go_at_call 16; (with_reducible refine hnw.mono ?_); rintro e u hV; have hu := hV.1; obtain ⟨E, hE, rfl⟩ := hV.bad hok)
      | (go_at_call 6; refine (alive_any _).mono ?_; rintro e u9 ⟨rfl, hb9⟩))
    go_ret
    exact ⟨rfl, bel2 (bel2 hb1 hu) hb9⟩
  obtain ⟨h1, h2, h3⟩ := hok
  have HOK : Hid (∀ (V : World) (e : Ending), NewV a0 a1 a2 w1 e V → ∃ p g, e = .returned (.tuple #[.pointer (some ⟨p, 0, none⟩), .int .i64 0]) ∧ w1.heap.size ≤ p ∧ w1.heap.size ≤ g ∧ Bk V p g (bk0 a0.toNat a1.toNat a2)) := fun V e hV => hV.ok h1 h2 h3
  have HB0 : Hid (Bok (bk0 a0.toNat a1.toNat a2)) := bk0_bok (by omega) (by omega)
  have HL0 : Hid ((bk0 a0.toNat a1.toNat a2).length = a0.toNat) := bk0_len _ _ _
  have hn1 : 1 ≤ a0 := by omega
  have hn2 : a0 ≤ 100 := by omega
  clear h1 h2 h3
  generalize bk0 a0.toNat a1.toNat a2 = L0 at HOK HB0 HL0
  by_cases hlong : (l3.length : Int) > 300
  case pos =>
    simp only [sv]
    go_enter Tryd.func4, Tryd.ntmps4
    go_wp2_with (first
      | (go_at_call 16; (with_reducible refine hnw.mono ?_); rintro e u hV; have hu := hV.1; obtain ⟨p, g, rfl, hp, hg, hK⟩ := HOK.out _ _ hV)
      | (go_at_call 6; refine (alive_any _).mono ?_; rintro e u9 ⟨rfl, hb9⟩))
    go_ret
    exact ⟨rfl, bel2 (bel2 hb1 hu) hb9⟩
  have HB1 : Hid (Bok (mrg L0 l3)) := mrg_bok HB0.out l3
  have HL1 : Hid ((mrg L0 l3).length = a0.toNat) := (mrg_len HB0.out l3).trans HL0.out
  have HM : Hid (∀ (W : World) (p g : Nat), Bk W p g L0 → RdN W ad3 l3 → (l3 ≠ [] → ∀ a, ad3 = some a → a.block ≠ g) → Calls Tryd.prog 17 #[.pointer (some ⟨p, 0, none⟩), .slice ad3 l3.length cap3] W fun e w' => (∃ (N : Nat) (E : Int), e = .returned (.tuple #[.agg #[.int .u32 (wd N 0 : Nat), .int .u32 (wd N 1 : Nat), .int .u32 (wd N 2 : Nat), .int .u32 (wd N 3 : Nat)], .int .i64 E])) ∧ Bk w' p g (mrg L0 l3) ∧ W.grownBy w' (some g)) := fun W p g hk hr hne => merge_some hk ad3 cap3 l3 hr hne (by omega)
  generalize mrg L0 l3 = L at HB1 HL1 HM
  have hLl : L.length = a0.toNat := HL1.out
  have hlen1 : 0 < L.length := by omega
  have hlen2 : L.length ≤ 100 := by omega
  obtain ⟨D, hD⟩ : ∃ D, dbs L (idsTo (cln N4) 128) = D := ⟨_, rfl⟩
  have hDok : Dok L D := by rw [← hD]; exact dbs_ok HB1.out (ids_nodup _ _)
  have hDl : D.length ≤ 128 := by rw [← hD]; refine Nat.le_trans (dbs_len _ _) ?_; rw [idsTo_length]; exact cnt_le _
  have HUS : Hid (sus (upF L D) = cln (sus L ||| cln (N4 &&& fullN L.length))) := by rw [← hD]; exact up_sus HB1.out hlen2 N4
  have HUD : Hid (dbs (upF L D) (idsTo (cln N4) 128) = []) := by rw [← hD]; exact up_dbs HB1.out _
  have HSL : Hid (sus L < S128) := Nat.lt_trans (sus_lt HB1.out hlen2) (by decide)
  obtain ⟨SL, hSL⟩ : ∃ SL, sus L = SL := ⟨_, rfl⟩
  have HD : Hid (∀ (W : World) (p g : Nat), Bk W p g L → Tab W → Calls Tryd.prog 19 #[.pointer (some ⟨p, 0, none⟩), sv N4] W fun e w' => ∃ v, e = .returned v ∧ Made W w' v D ∧ Below W.heap.size W w') := fun W p g hk hTW => by
    rw [← hD]
    exact doubts_any hk N4 hTW
  have HSUS : Hid (∀ (W : World) (p g : Nat), Bk W p g L → Calls Tryd.prog 18 #[.pointer (some ⟨p, 0, none⟩)] W fun e w' => e = .returned (.agg #[.int .u32 (wd SL 0 : Nat), .int .u32 (wd SL 1 : Nat), .int .u32 (wd SL 2 : Nat), .int .u32 (wd SL 3 : Nat)]) ∧ Below W.heap.size W w') := fun W p g hk => by
    rw [← hSL]
    exact sus_any hk hlen1 hlen2 HB1.out
  rw [hSL] at HUS HSL
  have HW3 : Hid (RdN w ad3 l3) := w3
  clear w3 hD hSL
  simp only [sv]
  go_enter Tryd.func4, Tryd.ntmps4
  go_wp2_with (first
    | (go_at_call 16; (with_reducible refine hnw.mono ?_); rintro e u hV; have hu := hV.1; obtain ⟨p, g, rfl, hp, hg, hK⟩ := HOK.out _ _ hV)
    | (go_at_call 17; refine (HM.out _ p g hK ((HW3.out.carry hb1).carry hu) (RdN.ne (HW3.out.carry hb1) hg)).mono ?_; rintro e u2 ⟨⟨Nm, Em, rfl⟩, hK2, hg2⟩; have G2 : Hid (Holds4 u2 w.heap.size (wd N4)) := Holds4.turn (G1.out.carry hu) hK hg2; have hT2 : Tab u2 := ((hT.carry hb1).carry hu).turn hg2 (by omega); have hB2 : Below w.heap.size w u2 := (bel2 hb1 hu).grown hg2 (bel2 hb1 hu).size (fun k e => by cases e; omega))
    | (go_at_call 18; refine (HSUS.out _ p g hK2).mono ?_; rintro e u3 ⟨rfl, hb3⟩; obtain ⟨u4, hu4⟩ : ∃ u4, u3.alloc (.cells #[.int .u32 0, .int .u32 0, .int .u32 0, .int .u32 0] 27) = u4 := ⟨_, rfl⟩; have k1 : Hid (Holds4 u4 u3.heap.size (fun _ => 0)) := (by rw [← hu4]; exact new_at rfl); have k2 : Hid (Below u2.heap.size u2 u4) := (by rw [← hu4]; exact bel2 hb3 (al1' _ _)); have k3 : u2.heap.size ≤ u3.heap.size := hb3.size)
    | (refine wpList_store_row rfl 27 (.tmp 13) (.tmp 41) rfl u3.heap.size (cells4 (wd SL)) rfl rfl 27 _ k1.out infoS rfl (by simp [cells4, Value.oneCell']) ?_; obtain ⟨u5, hu5⟩ : ∃ x, u4.setRow u3.heap.size (cells4 (wd SL)) = x := ⟨_, rfl⟩; have j1 : Hid (Holds4 u5 u3.heap.size (wd SL)) := (by rw [← hu5]; exact setRow_heap _ _ _ _ _ _ k1.out); have j2 : Hid (Below u2.heap.size u2 u5) := (by rw [← hu5]; exact below_row k2.out k3 _); rw [hu5]; have hK5 := hK2.carry j2.out; have G5 : Hid (Holds4 u5 w.heap.size (wd N4)) := G2.out.carry j2.out; have hT5 := hT2.carry j2.out)
    | (refine wpList_load_row rfl 27 (.tmp 9) rfl w.heap.size rfl 27 _ (0, 0) _ G5.out Tryd.underlying27 rfl infoS ?_)
    | (go_at_call 19; refine (HD.out _ p g hK5 hT5).mono ?_; rintro e u6 ⟨v, rfl, hMd, hb6⟩; obtain ⟨ad, cap, rfl, hrd, hadb⟩ := hMd.rd))
  have hK6 := hK5.carry hb6
  have G6 := G5.out.carry hb6
  have j6 := j1.out.carry hb6
  have hT6 := hT5.carry hb6
  have hB6 : Below w.heap.size w u6 := bel2 (bel2 hB2 j2.out) hb6
  have hadg : D ≠ [] → ∀ b off, ad = some ⟨b, off, none⟩ → b ≠ g := fun hne b off e => by
    have h7 := hadb _ e
    have h8 := hK5.glt
    dsimp only at h7
    omega
  have hgp : 0 < g := by omega
  have hgw : w.heap.size ≤ g := by omega
  obtain ⟨b13, hb13⟩ : ∃ b13, u3.heap.size = b13 := ⟨_, rfl⟩
  rw [hb13] at j6 ⊢
  clear hnw HOK HM HD HSUS hK hK2 hK5 k1 k2 j1 j2 hu4 hu5 hT2 hT5 G2 G5 hMd hadb hb6 hb3 HW3 hT hg2
  go_loopw [15] (fun c wz => ∃ k : Nat, c = .int .i64 k ∧ k ≤ D.length ∧ Bk wz p g (upF L (D.take k)) ∧ RdN wz ad D ∧ Holds4 wz w.heap.size (wd N4) ∧ Holds4 wz b13 (wd SL) ∧ Tab wz ∧ Below w.heap.size w wz) (fun c _ => D.length - vnat c)
  case atStart => exact ⟨0, rfl, Nat.zero_le _, by rw [List.take_zero, upF_nil]; exact hK6, hrd, G6, j6, hT6, hB6⟩
  case round =>
    obtain ⟨k, rfl, hk, hK, hrd, G, J, hTw, hbw⟩ := hrel
    by_cases hkl : k < D.length
    · have hki : (k : Int) < (D.length : Int) := by omega
      have hne : D ≠ [] := fun e => by subst e; simp at hkl
      obtain ⟨bd, off, rfl, hlt, hnts⟩ := hrd hne
      obtain ⟨d, hd⟩ : ∃ d, D[k]? = some d := ⟨_, List.getElem?_eq_getElem hkl⟩
      have hbg := hadg hne bd off rfl
      obtain ⟨iN, t, rfl, hiL, hget, hvl, hbat, htke⟩ := hDok.round HB1.out hlen2 hd
      have hDat : DAt wr bd off D := ⟨hlt, hnts⟩
      obtain ⟨c0, c1, c2⟩ := hnts k _ hd
      dsimp only at c0 c1 c2
      have hix := idx_n bd off D.length cap k hkl
      have hat := at_any hK (iN : Int)
      rw [atV_in hget] at hat
      dsimp only at hat
      unfold nt at hat
      have htk : ∀ V, Bk V p g (upF L (D.take k)) → Calls Tryd.prog 21 #[.pointer (some ⟨p, 0, none⟩), .agg #[.int .i64 (iN : Int), .int .i64 t, .int .i64 2]] V fun e w' => e = .returned (.tuple #[.bool true, .int .i64 0]) ∧ Bk w' p g (upF L (D.take (k + 1))) ∧ V.grownBy w' (some g) := fun V hV => by
        have := bktake_any hV (iN : Int) t 2
        rw [htke] at this
        unfold tkb at this
        rw [hvl, hbat] at this
        exact this
      clear htke hvl hbat hget
      go_wp2_with (first
        | (go_at_call 20; (with_reducible refine hat.mono ?_); rintro e v1 ⟨rfl, hv1⟩; obtain ⟨v2, hv2⟩ : ∃ u2, v1.alloc (.cells #[.int .i64 0, .int .i64 0, .int .i64 0] 50) = u2 := ⟨_, rfl⟩; have k1 : Hid (v2.heap[v1.heap.size]? = some (.cells #[.int .i64 0, .int .i64 0, .int .i64 0] 50 (0, 0))) := (by rw [← hv2]; exact new_at rfl); have k2 : Hid (Below wr.heap.size wr v2) := (by rw [← hv2]; exact bel2 hv1 (al1' _ _)); have k3 : wr.heap.size ≤ v1.heap.size := hv1.size)
        | (refine wpList_store_row rfl 50 (.tmp 16) (.tmp 59) rfl v1.heap.size #[.int .i64 (iN : Int), .int .i64 t, .int .i64 1] rfl rfl 50 _ k1.out infoN3 rfl (by simp [Value.oneCell']) ?_; obtain ⟨v3, hv3⟩ : ∃ x, v2.setRow v1.heap.size #[.int .i64 (iN : Int), .int .i64 t, .int .i64 1] = x := ⟨_, rfl⟩; have j1 : Hid (NB v3 v1.heap.size (iN : Int) t 1) := (by rw [← hv3]; exact setRow_heap _ _ _ _ _ _ k1.out); have j2 : Hid (Below wr.heap.size wr v3) := (by rw [← hv3]; exact below_row k2.out k3 _); rw [hv3]; have hK3 := hK.carry j2.out; have hD3 := hDat.carry j2.out; obtain ⟨m0, m1, m2⟩ := hD3.2 k _ hd; dsimp only at m0 m1 m2)
        | (go_at_call 21; refine (htk _ hK3).mono ?_; rintro e v4 ⟨rfl, hK4, hg4⟩))
      have hglt := hK.glt
      have hN4 : NB v4 v1.heap.size (iN : Int) t 1 := j1.out.turn hg4 (by omega)
      have hrd4 : NtsAt v4 bd off D ∧ bd < v4.heap.size := by
        have e := hg4.block bd hD3.1 (by simpa using hbg)
        refine ⟨fun j x hx => ?_, Nat.lt_of_lt_of_le hD3.1 hg4.size⟩
        obtain ⟨q0, q1, q2⟩ := hD3.2 j x hx
        exact ⟨(World.cell?_of_block (a := ⟨bd, _, none⟩) e).trans q0, (World.cell?_of_block (a := ⟨bd, _, none⟩) e).trans q1, (World.cell?_of_block (a := ⟨bd, _, none⟩) e).trans q2⟩
      have hDat4 : DAt v4 bd off D := ⟨hrd4.2, hrd4.1⟩
      have G4 := Holds4.turn (G.carry j2.out) hK3 hg4
      have J4 := Holds4.turn (J.carry j2.out) hK3 hg4
      have hT4 := (hTw.carry j2.out).turn hg4 hgp
      have hB4 : Below w.heap.size w v4 := (bel2 hbw j2.out).grown hg4 (bel2 hbw j2.out).size (fun k e => by cases e; omega)
      have hat4 : ∀ V, Below v4.heap.size v4 V → V.cell? ⟨bd, off + k * 3 + 1, none⟩ = some (.int .i64 t) ∧ V.cell? ⟨bd, off + k * 3 + 2, none⟩ = some (.int .i64 2) := fun V hV => by
        obtain ⟨_, q1, q2⟩ := (hDat4.carry hV).2 k _ hd
        exact ⟨q1, q2⟩
      refine wp_region_any hmx ?_
      refine wpAny_pure (fun i__ => ([(.int .i64 0), (.bool false), (.bool false), (.int .i64 0), (.bool false), (.bool false), (.bool false), (.bool true), (.bool false), (.bool false), (.bool false), (.pointer (some ⟨v1.heap.size, 2, none⟩)), (.int .i64 1), (.bool false), (.bool false), (.bool false), (.pointer (some ⟨v1.heap.size, 1, none⟩)), (.int .i64 t), (.slice (some ⟨bd, off, none⟩) D.length cap), (.int .i64 (k : Int)), (.pointer (some ⟨bd, off + k * 3, none⟩)), (.pointer (some ⟨bd, off + k * 3 + 1, none⟩)), (.int .i64 t), (.bool false), (.bool false), (.bool false), (.slice (some ⟨bd, off, none⟩) D.length cap), (.int .i64 (k : Int)), (.pointer (some ⟨bd, off + k * 3, none⟩)), (.pointer (some ⟨bd, off + k * 3 + 2, none⟩)), (.int .i64 2), (.bool false), (.bool false)] : List Value).getD i__ undef) (fun V => Below v4.heap.size v4 V) (by kernel_rfl) (Below.refl _ _).drew ?_ ?_
      · refine (stepsFrom_cons ?_ (stepsFrom_cons ?_ (stepsFrom_cons ?_ (stepsFrom_cons ?_ (stepsFrom_cons ?_ (stepsFrom_cons ?_ (stepsFrom_cons ?_ (stepsFrom_cons ?_ (stepsFrom_cons ?_ (stepsFrom_cons ?_ (stepsFrom_cons ?_ (stepsFrom_cons ?_ (stepsFrom_cons ?_ (stepsFrom_cons ?_ (stepsFrom_cons ?_ (stepsFrom_cons ?_ (stepsFrom_cons ?_ (stepsFrom_cons ?_ (stepsFrom_cons ?_ (stepsFrom_cons ?_ (stepsFrom_cons ?_ (stepsFrom_cons ?_ (stepsFrom_cons ?_ (stepsFrom_cons ?_ (stepsFrom_cons ?_ (stepsFrom_cons ?_ (stepsFrom_cons ?_ (stepsFrom_cons ?_ (stepsFrom_cons ?_ (stepsFrom_cons ?_ (stepsFrom_cons ?_ (stepsFrom_cons ?_ (stepsFrom_cons ?_ trivial)))))))))))))))))))))))))))))))))
        · exact step_move rfl trivial _ rfl (by kernel_rfl)
        · exact step_binOp rfl trivial _ _ _ _ _ _ _ rfl rfl rfl (fun v hw => bin_neq .i64 0 0)
        · exact step_move rfl trivial _ rfl (by kernel_rfl)
        · exact step_move rfl (by exact ⟨_, rfl, by kernel_rfl⟩) _ rfl (by kernel_rfl)
        · exact step_binOp rfl (by exact ⟨_, rfl, by kernel_rfl⟩) _ _ _ _ _ _ _ rfl rfl rfl (fun v hw => bin_neq .i64 0 0)
        · exact step_pick rfl trivial _ _ _ false rfl (by kernel_rfl) (by kernel_rfl)
        · exact step_move rfl trivial _ rfl (by kernel_rfl)
        · exact step_move rfl (by exact ⟨_, rfl, by kernel_rfl⟩) _ rfl (by kernel_rfl)
        · exact step_unOp rfl (by exact ⟨_, rfl, by kernel_rfl⟩) _ _ _ _ rfl rfl (fun v hw => un_not true v)
        · exact step_pick rfl trivial _ _ _ false rfl (by kernel_rfl) (by kernel_rfl)
        · exact step_move rfl trivial _ rfl (by kernel_rfl)
        · exact step_fieldAddr rfl (by exact ⟨_, rfl, by kernel_rfl⟩) _ _ _ _ rfl rfl (fun v hw => field_n2 v _)
        · exact step_load rfl (by exact ⟨_, rfl, by kernel_rfl⟩) _ _ _ rfl rfl (fun v hw => load_i64 (hN4.carry hw).c2)
        · exact step_binOp rfl (by exact ⟨_, rfl, by kernel_rfl⟩) _ _ _ _ _ _ _ rfl rfl rfl (fun v hw => bin_neq .i64 1 1)
        · exact step_pick rfl trivial _ _ _ false rfl (by kernel_rfl) (by kernel_rfl)
        · exact step_move rfl trivial _ rfl (by kernel_rfl)
        · exact step_fieldAddr rfl (by exact ⟨_, rfl, by kernel_rfl⟩) _ _ _ _ rfl rfl (fun v hw => field_n1 v _)
        · exact step_load rfl (by exact ⟨_, rfl, by kernel_rfl⟩) _ _ _ rfl rfl (fun v hw => load_i64 (hN4.carry hw).c1)
        · exact step_move rfl (by exact ⟨_, rfl, by kernel_rfl⟩) _ rfl (by kernel_rfl)
        · exact step_move rfl (by exact ⟨_, rfl, by kernel_rfl⟩) _ rfl (by kernel_rfl)
        · exact step_indexAddr rfl (by exact ⟨_, rfl, by kernel_rfl⟩) _ _ _ _ _ rfl rfl rfl (fun v hw => idx_n bd off _ _ k hkl v)
        · exact step_fieldAddr rfl (by exact ⟨_, rfl, by kernel_rfl⟩) _ _ _ _ rfl rfl (fun v hw => field_o1 v _ _)
        · exact step_load rfl (by exact ⟨_, rfl, by kernel_rfl⟩) _ _ _ rfl rfl (fun v hw => load_i64 (hat4 v hw).1)
        · exact step_binOp rfl (by exact ⟨_, rfl, by kernel_rfl⟩) _ _ _ _ _ _ _ rfl rfl rfl (fun v hw => (bin_neq .i64 t t).trans (by simp))
        · exact step_pick rfl trivial _ _ _ false rfl (by kernel_rfl) (by kernel_rfl)
        · exact step_move rfl trivial _ rfl (by kernel_rfl)
        · exact step_move rfl (by exact ⟨_, rfl, by kernel_rfl⟩) _ rfl (by kernel_rfl)
        · exact step_move rfl (by exact ⟨_, rfl, by kernel_rfl⟩) _ rfl (by kernel_rfl)
        · exact step_indexAddr rfl (by exact ⟨_, rfl, by kernel_rfl⟩) _ _ _ _ _ rfl rfl rfl (fun v hw => idx_n bd off _ _ k hkl v)
        · exact step_fieldAddr rfl (by exact ⟨_, rfl, by kernel_rfl⟩) _ _ _ _ rfl rfl (fun v hw => field_o2 v _ _)
        · exact step_load rfl (by exact ⟨_, rfl, by kernel_rfl⟩) _ _ _ rfl rfl (fun v hw => load_i64 (hat4 v hw).2)
        · exact step_binOp rfl (by exact ⟨_, rfl, by kernel_rfl⟩) _ _ _ _ _ _ _ rfl rfl rfl (fun v hw => bin_neq .i64 2 2)
        · exact step_pick rfl trivial _ _ _ false rfl (by kernel_rfl) (by kernel_rfl)
      intro W hW
      first | refine hK _ _ ?_ | refine (‹∀ (a : Act) (w : World), Code.wp Tryd.prog _ _ a w → _›) _ _ ?_
      simp only [finL, List.getD_cons_zero, List.getD_cons_succ, Nat.zero_add, Nat.reduceAdd, List.setIfInBounds_toArray, List.set_cons_zero, List.set_cons_succ]
      have hK5 := hK4.carry hW
      have hrd5 : RdN W (some ⟨bd, off, none⟩) D := fun _ => ⟨bd, off, rfl, (hDat4.carry hW).1, (hDat4.carry hW).2⟩
      have G5 := G4.carry hW
      have J5 := J4.carry hW
      have hT5 := hT4.carry hW
      have hB5 := bel2 hB4 hW
      go_wp2
      go_roundw
      case rel => exact ⟨k + 1, by simp, by omega, hK5, hrd5, G5, J5, hT5, hB5⟩
      case measure => simp [vnat]; omega
    · have hkk : k = D.length := by omega
      subst hkk
      have hki : ¬ ((D.length : Int) < (D.length : Int)) := by omega
      rw [List.take_length] at hK
      have hfu := full_any a0
      rw [show fullV a0 = .tuple #[sv (fullN a0.toNat), .int .i64 0] from if_pos (by omega)] at hfu
      rw [hLl] at HUS
      obtain ⟨FN, hFN⟩ : ∃ FN, fullN a0.toNat = FN := ⟨_, rfl⟩
      rw [hFN] at hfu HUS
      obtain ⟨LF, hLF⟩ : ∃ LF, upF L D = LF := ⟨_, rfl⟩
      have hbF : Bok LF := by rw [← hLF]; exact upF_bok HB1.out
      have hlF : LF.length = L.length := by rw [← hLF]; exact upF_len _ _
      rw [hLF] at hK HUS HUD
      clear hFN hLF
      have hsus : ∀ V, Below wr.heap.size wr V → Calls Tryd.prog 18 #[.pointer (some ⟨p, 0, none⟩)] V fun e w' => e = .returned (sv (cln (SL ||| cln (N4 &&& FN)))) ∧ Below V.heap.size V w' := fun V hV => by
        have := sus_any (hK.carry hV) (by omega) (by omega) hbF
        rw [HUS.out] at this
        exact this
      have hdb : ∀ V, Below wr.heap.size wr V → Calls Tryd.prog 19 #[.pointer (some ⟨p, 0, none⟩), sv N4] V fun e w' => ∃ a c, e = .returned (.slice a 0 c) ∧ Below V.heap.size V w' := fun V hV => by
        refine (doubts_any (hK.carry hV) N4 (hTw.carry hV)).mono ?_
        rintro e w' ⟨v, rfl, hm, hb⟩
        rw [HUD.out] at hm
        obtain ⟨a, c, rfl, _⟩ := hm.rd
        exact ⟨a, c, rfl, hb⟩
      simp only [sv] at hfu
      go_wp2_with (first
        | (go_at_call 22; (with_reducible refine (hfu _).mono ?_); rintro e v ⟨rfl, hv⟩; obtain ⟨v3, hv3⟩ : ∃ u3, v.alloc (.cells #[.int .u32 0, .int .u32 0, .int .u32 0, .int .u32 0] 27) = u3 := ⟨_, rfl⟩; have k1 : Hid (Holds4 v3 v.heap.size (fun _ => 0)) := (by rw [← hv3]; exact new_at rfl); have k3 : Hid (Below wr.heap.size wr v3) := (by rw [← hv3]; exact bel2 hv (al1' _ _)))
        | (refine wpList_store_row rfl 27 (.tmp 20) (.tmp 106) rfl v.heap.size (cells4 (wd FN)) rfl rfl 27 _ k1.out infoS rfl (by simp [cells4, Value.oneCell']) ?_; obtain ⟨v4, hv4⟩ : ∃ x, v3.setRow v.heap.size (cells4 (wd FN)) = x := ⟨_, rfl⟩; have j1 : Hid (Holds4 v4 v.heap.size (wd FN)) := (by rw [← hv4]; exact setRow_heap _ _ _ _ _ _ k1.out); have j3 : Hid (Below wr.heap.size wr v4) := (by rw [← hv4]; exact below_row k3.out hv.size _); rw [hv4]))
      have hUlt : cln (SL ||| cln (N4 &&& FN)) < S128 := S100_S128 (cln_lt _)
      refine wp_region_any hmx ?_
      refine wpAny_tabG (G := (Option Addr × Nat)) (fun g i__ => ([(.bool true), (.bool true), (.pointer (some ⟨p, 0, none⟩)), (sv (cln (SL ||| cln (N4 &&& FN)))), (sv SL), (sv N4), (sv FN), (sv (cln (N4 &&& FN))), (sv (cln (SL ||| cln (N4 &&& FN)))), (.bool true), (.bool true), (.bool true), (.pointer (some ⟨p, 0, none⟩)), (sv N4), (.slice g.1 0 g.2), (.int .i64 0), (.bool true), (.bool true), (.bool true)] : List Value).getD i__ undef) (fun g d V => Below v4.heap.size v4 V) (by kernel_rfl) ((none, 0)) (Below.refl _ _).drew ?step1 ?fin1
      case step1 =>
        intro i o ho
        have hi : i < 19 := getElem?_lt ho
        match i, hi, ho with
        | 0, _, ho =>
          cases ho
          refine stepG_of (fun g d hdep => ?_)
          exact step_call rfl trivial 6 _ _ [] rfl (by kernel_rfl) (enters_of Tryd.func6 (by kernel_rfl) rfl) (fun v hw => (alive_any v).mono (by rintro e w2 ⟨rfl, hb⟩; exact ⟨rfl, bel2 hw hb⟩))
        | 1, _, ho =>
          cases ho
          refine stepG_of (fun g d hdep => ?_)
          exact step_move rfl trivial _ rfl (by kernel_rfl)
        | 2, _, ho =>
          cases ho
          refine stepG_of (fun g d hdep => ?_)
          exact step_move rfl (by exact ⟨_, rfl, by kernel_rfl⟩) _ rfl (by kernel_rfl)
        | 3, _, ho =>
          cases ho
          refine stepG_of (fun g d hdep => ?_)
          exact step_call rfl (by exact ⟨_, rfl, by kernel_rfl⟩) 18 _ _ [(.pointer (some ⟨p, 0, none⟩))] rfl (by kernel_rfl) (enters_of Tryd.func18 (by kernel_rfl) rfl) (fun v hw => (hsus v (bel2 j3.out hw)).mono (by rintro e w2 ⟨rfl, hb⟩; exact ⟨rfl, bel2 hw hb⟩))
        | 4, _, ho =>
          cases ho
          refine stepG_of (fun g d hdep => ?_)
          exact step_load rfl (by exact ⟨_, rfl, by kernel_rfl⟩) _ _ _ rfl rfl (fun v hw => whole4 v _ SL (J.carry (bel2 j3.out hw)))
        | 5, _, ho =>
          cases ho
          refine stepG_of (fun g d hdep => ?_)
          exact step_load rfl (by exact ⟨_, rfl, by kernel_rfl⟩) _ _ _ rfl rfl (fun v hw => whole4 v _ N4 (G.carry (bel2 j3.out hw)))
        | 6, _, ho =>
          cases ho
          refine stepG_of (fun g d hdep => ?_)
          exact step_load rfl (by exact ⟨_, rfl, by kernel_rfl⟩) _ _ _ rfl rfl (fun v hw => whole4 v _ FN (j1.out.carry hw))
        | 7, _, ho =>
          cases ho
          refine stepG_of (fun g d hdep => ?_)
          exact step_call rfl (by exact ⟨_, rfl, by kernel_rfl⟩) 13 _ _ [(sv N4), (sv FN)] rfl (by kernel_rfl) (enters_of Tryd.func13 (by kernel_rfl) rfl) (fun v hw => (meet_any N4 FN v).mono (by rintro e w2 ⟨rfl, hb⟩; exact ⟨rfl, bel2 hw hb⟩))
        | 8, _, ho =>
          cases ho
          refine stepG_of (fun g d hdep => ?_)
          exact step_call rfl (by exact ⟨_, rfl, by kernel_rfl⟩) 23 _ _ [(sv SL), (sv (cln (N4 &&& FN)))] rfl (by kernel_rfl) (enters_of Tryd.func23 (by kernel_rfl) rfl) (fun v hw => (union_any SL _ v).mono (by rintro e w2 ⟨rfl, hb⟩; exact ⟨rfl, bel2 hw hb⟩))
        | 9, _, ho =>
          cases ho
          refine stepG_of (fun g d hdep => ?_)
          exact step_binOp rfl (by exact ⟨_, rfl, by kernel_rfl⟩) _ _ _ _ _ _ _ rfl rfl rfl (fun v hw => eqls rfl hUlt v)
        | 10, _, ho =>
          cases ho
          refine stepG_of (fun g d hdep => ?_)
          exact step_pick rfl trivial _ _ _ true rfl (by kernel_rfl) (by kernel_rfl)
        | 11, _, ho =>
          cases ho
          refine stepG_of (fun g d hdep => ?_)
          exact step_move rfl trivial _ rfl (by kernel_rfl)
        | 12, _, ho =>
          cases ho
          refine stepG_of (fun g d hdep => ?_)
          exact step_move rfl (by exact ⟨_, rfl, by kernel_rfl⟩) _ rfl (by kernel_rfl)
        | 13, _, ho =>
          cases ho
          refine stepG_of (fun g d hdep => ?_)
          exact step_load rfl (by exact ⟨_, rfl, by kernel_rfl⟩) _ _ _ rfl rfl (fun v hw => whole4 v _ N4 (G.carry (bel2 j3.out hw)))
        | 14, _, ho =>
          cases ho
          exact stepG_call rfl (fun _ => ⟨_, rfl, by kernel_rfl⟩) 19 _ _ (fun _ => [.pointer (some ⟨p, 0, none⟩), sv N4]) rfl (fun g => by kernel_rfl) (enters_of Tryd.func19 (by kernel_rfl) rfl) (fun g d V hJ hun hdep hcl => (hdb V (bel2 j3.out hJ)).mono (by rintro e V' ⟨a, c, rfl, h2⟩; refine ⟨(a, c), rfl, (fun j hj => match j, hj with | 14, hj => (by rw [hj] at hun; cases hun) | 15, hj => absurd ((hcl 15 _ rfl hj 14 (by kernel_rfl))) (by rw [hun]; simp) | 0, _ => rfl | 1, _ => rfl | 2, _ => rfl | 3, _ => rfl | 4, _ => rfl | 5, _ => rfl | 6, _ => rfl | 7, _ => rfl | 8, _ => rfl | 9, _ => rfl | 10, _ => rfl | 11, _ => rfl | 12, _ => rfl | 13, _ => rfl | 16, _ => rfl | 17, _ => rfl | 18, _ => rfl | _ + 19, _ => rfl), ?_⟩; exact bel2 hJ h2))
        | 15, _, ho =>
          cases ho
          refine stepG_of (fun g d hdep => ?_)
          exact step_bi rfl (by exact ⟨_, rfl, by kernel_rfl⟩) _ _ _ [(.slice g.1 0 g.2)] rfl (by kernel_rfl) (fun cs v hw => bi_lenN _ cs _ _ _ v)
        | 16, _, ho =>
          cases ho
          refine stepG_of (fun g d hdep => ?_)
          exact step_binOp rfl (by exact ⟨_, rfl, by kernel_rfl⟩) _ _ _ _ _ _ _ rfl rfl rfl (fun v hw => bin_eql .i64 0 0)
        | 17, _, ho =>
          cases ho
          refine stepG_of (fun g d hdep => ?_)
          exact step_pick rfl trivial _ _ _ true rfl (by kernel_rfl) (by kernel_rfl)
        | 18, _, ho =>
          cases ho
          refine stepG_of (fun g d hdep => ?_)
          exact step_assign rfl trivial _ rfl (by kernel_rfl) (fun _ h => h)
      intro g d W hall hW
      first | refine hK _ _ ?_ | refine (‹∀ (a : Act) (w : World), Code.wp Tryd.prog _ _ a w → _›) _ _ ?_ | skip
      simp only [finL, List.getD_cons_zero, List.getD_cons_succ, Nat.zero_add, Nat.reduceAdd, List.setIfInBounds_toArray, List.set_cons_zero, List.set_cons_succ]
      go_wp2
      go_ret
      exact ⟨rfl, bel2 hbw (bel2 j3.out hW)⟩

set_option maxRecDepth 100000 in
theorem lifted (os : Os) (started : os.Started) (H : Type) (enc : TypeId × Value → H) :
    ReturnsInHanded {} Tryd.checked os 4 .any (fun w args => (Rows.inferBegunSpec.pre enc Tryd.prog Tryd.f4 [] false w args ∧ laidMetH Tryd.prog Rows.inferBegunRow.laid w) ∧ sizedMet enc Tryd.prog Tryd.f4 (OpenSpec.ofChange Rows.inferBegunSpec) false w args)
      (Rows.inferBegunSpec.post enc Tryd.prog Tryd.f4 false true false false) := by
  refine returnsInHanded_of_change_and (C := Tryd.checked) (X := fun w _ => laidMetH Tryd.prog Rows.inferBegunRow.laid w) (fun _ _ _ hh h => h.of_heap hh) own started (by kernel_rfl) Tryd.func4
    (ChangeSpec.witness_shaped (enc := enc) (C := Tryd.checked) (os := os) (X := fun w _ => laidMetH Tryd.prog Rows.inferBegunRow.laid w) false (World.laidAll Tryd.prog os Rows.inferBegunRow.laid) #[.int .i64 0, .int .i64 0, .int .i64 0, .slice none 0 0, .agg #[.int .u32 0, .int .u32 0, .int .u32 0, .int .u32 0]] 8 (World.laidAll_os _ _ _)
      (World.shaped_of_ZipB (by kernel_rfl) (by kernel_rfl)) (by kernel_rfl) (by kernel_rfl) (by kernel_rfl)
      (by rw [MakeChecks.laidMetH_plain _ _ _ (by kernel_rfl)]; exact laidMet_laidAll _ (by kernel_rfl) (by kernel_rfl))) ?_
  intro W base args ds gs before hval0 hW _ hsz hL _
  have hval : ∀ (j : Nat) t v, Tryd.f4.params[j]? = some t → args[j]? = some v → Value.okWide Tryd.prog W .any base t v := hval0
  have hW' := hW
  obtain ⟨p, q, hA0, hV, rfl, hfz, hnd⟩ := hW
  have hA : DataW.TrodAll enc Tryd.prog W 0 (fun _ => true) true Tryd.f4.params.toList args.toList ds p := hA0
  rw [Tryd.params4] at hA hval
  obtain ⟨v0, vs0, d0, ds0, p0, q0, hargs, rfl, rfl, h0, r0⟩ := trodAll_cons hA
  obtain ⟨v1, vs1, d1, ds1, p1, q1, rfl, rfl, rfl, h1, r1⟩ := trodAll_cons r0
  obtain ⟨v2, vs2, d2, ds2, p2, q2, rfl, rfl, rfl, h2, r2⟩ := trodAll_cons r1
  obtain ⟨v3, vs3, d3, ds3, p3, q3, rfl, rfl, rfl, h3, r3⟩ := trodAll_cons r2
  obtain ⟨v4, vs4, d4, ds4, p4, q4, rfl, rfl, rfl, h4, r4⟩ := trodAll_cons r3
  obtain ⟨rfl, rfl, rfl⟩ := trodAll_nil r4
  obtain rfl : args = #[v0, v1, v2, v3, v4] := by cases args; simp_all
  obtain ⟨rfl, rfl⟩ := trodVars_none hV
  obtain ⟨a0, rfl, rfl, rfl, w0⟩ := open_int Tryd.underlying3 (hval 0 3 v0 rfl rfl) h0
  obtain ⟨a1, rfl, rfl, rfl, w1⟩ := open_int Tryd.underlying3 (hval 1 3 v1 rfl rfl) h1
  obtain ⟨a2, rfl, rfl, rfl, w2⟩ := open_int Tryd.underlying3 (hval 2 3 v2 rfl rfl) h2
  have k3 := h3
  have lt3 : ∀ x ∈ p3, x.block < W.heap.size := by obtain ⟨m, hm⟩ := k3; exact DataW.trod_lt m _ _ _ hm
  obtain ⟨ad3, cap3, l3, rfl, w3, hc3, hq3, hd3⟩ := open_nts (hval 3 42 v3 rfl rfl) h3
  obtain ⟨N4, hN4, rfl, rfl, rfl⟩ := open_set (hval 4 27 v4 rfl rfl) h4
  clear hA0 hval0
  refine (walk W a0 w0 a1 w1 a2 w2 ad3 cap3 l3 w3 hc3 hq3 N4 hN4 hL).mono fun e W' ⟨he, hg⟩ => ?_
  subst he
  exact ⟨_, rfl, _, _, _, [], _, [], hW', (trodAll_cons_mk (shut_bool Tryd.underlying4 _) trodAll_mk0), (trodAll_cons_mk (shut_int Tryd.underlying3 w0) (trodAll_cons_mk (shut_int Tryd.underlying3 w1) (trodAll_cons_mk (shut_int Tryd.underlying3 w2) (trodAll_cons_mk (Below.trod laidOut (by kernel_rfl) (of_decide_eq_true (by kernel_rfl)) k3 hg lt3) (trodAll_cons_mk (shut_set N4) trodAll_mk0))))), rfl, hg.frame _, fun h => by cases h⟩

theorem over : Rows.inferBegunRow.holds Tryd.pinned (OpenSpec.ofChange Rows.inferBegunSpec) :=
  OpenClaim.holds_of_wide 4 Tryd.f4 rfl rfl rfl rfl rfl rfl rfl ⟨rfl, rfl, rfl, rfl, rfl⟩ rfl rfl rfl rfl rfl (by kernel_rfl) Tryd.func4 (by kernel_rfl)
    (of_decide_eq_true (by kernel_rfl)) (by unfold Func.isWrapper; first | (rw [if_pos (by decide +kernel)]; kernel_rfl) | (rw [if_neg (by decide +kernel)]; exact ⟨rfl, rfl⟩))
    (fun os started H enc _ => lifted os started H enc)

theorem row_proved : Rows.InferBegunSaid :=
  over
theorem proved : Rows.InferBegunCardSaid :=
  Claim7.holds_tied_plain_at .later [] [.data] true (true, "4e6d6cd140fb0cb465ee6f39c3f9264a031d6201466ac6ddaf174ba7b1cc6811") false
    row_proved (fun _ h => by cases h) (by kernel_rfl) (fun _ h => by cases h) inferBegun_row_tie rfl ⟨rfl, rfl⟩ (by kernel_rfl) rfl
    (fun f fn hf hfn => by
      obtain rfl : f = 4 := Option.some.inj ((show Tryd.prog.funcNamed "earshot/earshotlaw14.InferBegun" = some 4 by kernel_rfl).symm.trans hf) |>.symm
      obtain rfl : fn = Tryd.f4 := (Option.some.inj (Tryd.func4.symm.trans hfn)).symm
      exact ⟨by kernel_rfl, fun j t ht => by
        rw [Tryd.params4] at ht
        rcases j with _ | j
        · have e : t = 3 := by simpa using ht.symm
          subst e
          exact (show Tryd.prog.wantsStandIn 3 = false by kernel_rfl)
        rcases j with _ | j
        · have e : t = 3 := by simpa using ht.symm
          subst e
          exact (show Tryd.prog.wantsStandIn 3 = false by kernel_rfl)
        rcases j with _ | j
        · have e : t = 3 := by simpa using ht.symm
          subst e
          exact (show Tryd.prog.wantsStandIn 3 = false by kernel_rfl)
        rcases j with _ | j
        · have e : t = 42 := by simpa using ht.symm
          subst e
          exact (show Tryd.prog.wantsStandIn 42 = false by kernel_rfl)
        rcases j with _ | j
        · have e : t = 27 := by simpa using ht.symm
          subst e
          exact (show Tryd.prog.wantsStandIn 27 = false by kernel_rfl)
        simp at ht⟩)
    (by kernel_rfl)
#print axioms proved
end Go.Proofs.YtgehmidalfajgaaDoor
