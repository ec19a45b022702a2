/- BagGoes: at every list of bytes' lists and every number: All goes through the datagrams as they were at the call, as far as it is asked, also while the bag is turned, and again; no condition. -/
import Derived.Test.YtenahcdmdhlieabRows
import Derived.WalkKit
import Derived.ProofKit
import Derived.OpenShut
import Derived.Test.YtenahcdmdhlieabBgr
namespace Go.Proofs.Ytenahcdmdhlieab
open Go.ChangeShapes Go.WideShapes Go.ChangeAt Go.RowKit
set_option linter.unusedVariables false

theorem laidOut : laidOutB Try.prog = true := by kernel_rfl
theorem own : ownKnob Try.prog.godebug = none := by kernel_rfl
open Go.Shelf Go.Lib
attribute [local go_sem] Oper.semAt_some
theorem idx_Y2 {ad0 : Option Addr} {g off : Nat} (h : ad0 = some ⟨g, off, none⟩) (n cap k : Nat) (hk : k < n) (w : World) : (Instr.indexAt 22 (.slice ad0 n cap) (.int .i64 (k : Int))).run Try.prog w = .ok (.pointer (some ⟨g, off + k, none⟩)) w := by
  subst h
  exact idx_Y g off n cap k hk w
theorem fld_g (W : World) (B f : Nat) (h : f < 4) : (Instr.fieldAt 35 (.pointer (some ⟨B, 0, none⟩)) f).run Try.prog W = .ok (.pointer (some ⟨B, f, none⟩)) W := by
  match f, h with
  | 0, _ => go_simp
  | 1, _ => go_simp
  | 2, _ => go_simp
  | 3, _ => go_simp
set_option maxHeartbeats 8000000 in
set_option maxRecDepth 100000 in
theorem goes_in (w : World) (ad0 : Option Addr) (cap0 : Nat) (ls : List (List Nat)) (a1 : Int) (w0 : RdYY w w.heap.size ad0 ls) (h40 : ls.length ≤ 40) (hsm : ∀ d ∈ ls, d.length ≤ 1000) :
    CallsIn Fence.wide 0 Try.prog 3 #[.slice ad0 ls.length cap0, .int .i64 a1] w fun e w' => e = .returned (.bool true) ∧ Below w.heap.size w w' := by
  have hmx : Try.prog.follows .mixedOrders = true := by kernel_rfl
  have hal := alive_any
  have hnf := nilF_no
  obtain ⟨n, hn⟩ : ∃ n, ls.length = n := ⟨_, rfl⟩
  have HN : Hid (ls.length = n) := hn
  rw [hn] at h40 ⊢
  have h40i : ¬ ((n : Int) > 40) := by omega
  clear hn
  obtain ⟨wb, hwb⟩ : ∃ wb, ((w.alloc (.cells #[.slice ad0 n cap0] 22)).alloc (.cells #[.int .i64 a1] 3)).alloc (.cells #[.bool false] 4) = wb := ⟨_, rfl⟩
  have hwz : wb.heap.size = w.heap.size + 3 := by rw [← hwb]; simp
  have hdt : wb.heap[w.heap.size]? = some (.cells #[.slice ad0 n cap0] 22 (0, 0)) := by rw [← hwb]; exact old_at (old_at (new_at rfl))
  have hst : wb.heap[w.heap.size + 1]? = some (.cells #[.int .i64 a1] 3 (0, 0)) := by rw [← hwb]; exact old_at (new_at (by simp))
  have hrs : wb.heap[w.heap.size + 2]? = some (.cells #[.bool false] 4 (0, 0)) := by rw [← hwb]; exact new_at (by simp)
  have hww : Below w.heap.size w wb := by rw [← hwb]; exact bel2 (bel2 (al1' _ _) (al1' _ _)) (al1' _ _)
  have hne := new_ok 50 wb (by decide) (by decide)
  have HWZ : Hid (wb.heap.size = w.heap.size + 3) := hwz
  have cd0 : wb.cell? ⟨w.heap.size, 0, none⟩ = some (.slice ad0 n cap0) := cell_at hdt 0
  clear hwz
  refine callsIn_of_wp_marks Try.func3 rfl trivial ?_ rfl
  simp only [Try.ntmps3, List.size_toArray, List.length_cons, List.length_nil, Nat.reduceAdd, Nat.reduceSub, Array.replicate_succ, Array.replicate_zero, List.push_toArray, List.append_toArray, List.nil_append, List.cons_append]
  refine wpIn_wide.2 ?_
  go_wp2_with (go_at_call 5; (with_reducible refine hne.mono ?_); rintro e u1 ⟨rfl, hB1, hb1⟩; obtain ⟨v1, hv1⟩ : ∃ v1, u1.alloc (.cells #[.pointer (some ⟨wb.heap.size, 0, none⟩)] 24) = v1 := ⟨_, rfl⟩)
  have hbv : Below u1.heap.size u1 v1 := by rw [← hv1]; exact al1' _ _
  have hBv := hB1.carry hbv
  have hbwv : Below wb.heap.size wb v1 := bel2 hb1 hbv
  have hbb : v1.heap[u1.heap.size]? = some (.cells #[.pointer (some ⟨wb.heap.size, 0, none⟩)] 24 (0, 0)) := by rw [← hv1]; exact new_at rfl
  have hdv := (hbwv.block _ (lt_at hdt)).trans hdt
  have hsv := (hbwv.block _ (lt_at hst)).trans hst
  have hrv := (hbwv.block _ (lt_at hrs)).trans hrs
  have hwv : Below w.heap.size w v1 := bel2 hww hbwv
  have hO1 : RdYY v1 w.heap.size ad0 ls := w0.carry hwv
  have hws : w.heap.size ≤ wb.heap.size := hww.size
  clear hv1 hB1 hbv hdt hst hrs cd0 hwb
  go_loopw [7] (fun iv wz => ∃ (k : Nat) (ad : Option Addr) (cap : Nat) (ps : List Nat), iv = .int .i64 k ∧ k ≤ n ∧ Hid (Bg wz wb.heap.size wb.heap.size ad cap 50 (k : Int) ps (snt (ls.take k)) ∧ Tn wb.heap.size (ob none) (ob ad) v1 wz)) (fun iv _ => n - vnat iv)
  case atStart => exact ⟨0, none, 0, [], rfl, Nat.zero_le _, hBv, Tn.of _ _ (Below.refl _ _)⟩
  case round =>
    obtain ⟨k, ad, cap, ps, rfl, hk, HB⟩ := hrel
    have hsvr : Sv v1 wr := hBv.sv HB.out.2
    have hdw := hsvr _ _ _ _ (by decide) (by decide) hdv
    have hbw := hsvr _ _ _ _ (by decide) (by decide) hbb
    have cd : wr.cell? ⟨w.heap.size, 0, none⟩ = some (.slice ad0 n cap0) := cell_at hdw 0
    have hbel : Below wb.heap.size v1 wr := hBv.below HB.out.2
    by_cases hkn : k < n
    · have hki : (k : Int) < (n : Int) := by omega
      obtain ⟨d, hd⟩ : ∃ d, ls[k]? = some d := ⟨_, List.getElem?_eq_getElem (by rw [HN.out]; exact hkn)⟩
      have hd1 := hsm d (List.mem_of_getElem? hd)
      obtain ⟨b, off, a, c, rfl, hb, c0, hu, hy⟩ := (hO1.carry (hbel.mono hws)) k d hd
      have hdi : ¬ ((d.length : Int) > 1000) := by omega
      have hix := idx_Y b off n cap0 k hkn
      have htk : ls.take (k + 1) = ls.take k ++ [d] := by rw [List.take_add_one, hd]; rfl
      have hlk : (ls.take k).length = k := by rw [List.length_take, HN.out]; omega
      have hsn : snt (ls.take (k + 1)) = snt (ls.take k) ++ [((k : Int) + 1, (k : Int), -(k : Int), d)] := by rw [htk, snt_app, hlk]
      have hss : sSend 50 (k : Int) (snt (ls.take k)) (k : Int) (-(k : Int)) d = ((k : Int) + 1, 0, (k : Int) + 1, snt (ls.take (k + 1))) := by
        rw [hsn]
        unfold sSend sAdd
        rw [if_neg (by omega), if_neg (by rw [snt_len, hlk]; omega)]
      have HSS : Hid (sSend 50 (k : Int) (snt (ls.take k)) (k : Int) (-(k : Int)) d = ((k : Int) + 1, 0, (k : Int) + 1, snt (ls.take (k + 1)))) := hss
      clear hss hsn htk hlk hd
      go_wp2
      refine wp_region_any hmx ?_
      refine wpAny_last 8 (fun i__ => ([(.pointer (some ⟨wb.heap.size, 0, none⟩)), (.int .i64 (k : Int)), (.int .i64 (k : Int)), (.int .i64 (-(k : Int))), (.slice (some ⟨b, off, none⟩) n cap0), (.int .i64 (k : Int)), (.pointer (some ⟨b, off + k, none⟩)), (.slice a d.length c), (.tuple #[.int .i64 ((k : Int) + 1), .int .i64 0])] : List Value).getD i__ undef) (fun V => Bg V wb.heap.size wb.heap.size ad cap 50 (k : Int) ps (snt (ls.take k)) ∧ Below wr.heap.size wr V) (fun V => ∃ ad' cap' ps', Bg V wb.heap.size wb.heap.size ad' cap' 50 ((k : Int) + 1) ps' (snt (ls.take (k + 1))) ∧ Tn wb.heap.size (ob none) (ob ad') v1 V) rfl (by kernel_rfl) (by kernel_rfl) ⟨HB.out.1.carry (Below.refl _ _).drew, (Below.refl _ _).drew⟩ ?_ ?_  ?_
      · refine (stepsFrom_cons ?_ (stepsFrom_cons ?_ (stepsFrom_cons ?_ (stepsFrom_cons ?_ (stepsFrom_cons ?_ (stepsFrom_cons ?_ (stepsFrom_cons ?_ (stepsFrom_cons ?_ trivial))))))))
        · exact step_load rfl trivial _ _ _ rfl rfl (fun v hw => load_bp ((hw.2.block _ (lt_at hbw)).trans hbw))
        · exact step_move rfl trivial _ rfl (by kernel_rfl)
        · exact step_move rfl trivial _ rfl (by kernel_rfl)
        · exact step_unOp rfl trivial _ _ _ _ rfl rfl (fun v hw => un_neg k (by omega) v)
        · exact step_load rfl trivial _ _ _ rfl rfl (fun v hw => load_Y ((hw.2.block _ (lt_at hdw)).trans hdw))
        · exact step_move rfl trivial _ rfl (by kernel_rfl)
        · exact step_indexAddr rfl trivial _ _ _ _ _ rfl rfl rfl (fun v hw => idx_Y b off n cap0 k hkn v)
        · exact step_load rfl trivial _ _ _ rfl rfl (fun v hw => load_b ((hw.2.cell (p := ⟨b, _, none⟩) (by show b < wr.heap.size; have := hwv.size; have := hbel.size; omega)).trans c0))
      · intro o ho
        cases ho
        exact step_call rfl trivial 6 _ _ [(.pointer (some ⟨wb.heap.size, 0, none⟩)), (.int .i64 (k : Int)), (.int .i64 (-(k : Int))), (.slice a d.length c)] rfl (by kernel_rfl) (enters_of Try.func6 (by kernel_rfl) rfl) (fun v hw => by have hse := send_any hw.1 (k : Int) (-(k : Int)) a c d ((hu.rd (by have := hwv.size; have := hbel.size; omega)).carry hw.2) (fun hn a' e => by obtain ⟨b', off', e1, e2, _⟩ := hu hn; rw [e1] at e; cases e; show b' ≠ wb.heap.size; omega) hy (by omega) (by omega); rw [HSS.out] at hse; exact hse.mono (by rintro e w' ⟨rfl, ad', cap', ps', hB', hT'⟩; exact ⟨rfl, ad', cap', ps', hB', (HB.out.2.trans (Tn.of _ _ hw.2)).trans hT'⟩))
      intro W hW
      first | refine hK _ _ ?_ | refine (‹∀ (a : Act) (w : World), Code.wp Try.prog _ _ a w → _›) _ _ ?_
      simp only [finL, List.getD_cons_zero, List.getD_cons_succ, Nat.zero_add, Nat.reduceAdd, List.setIfInBounds_toArray, List.set_cons_zero, List.set_cons_succ]
      obtain ⟨ad', cap', ps', hB', hT'⟩ := hW
      go_wp2
      go_roundw
      case rel => exact ⟨k + 1, ad', cap', ps', by simp, by omega, by simpa using hB', hT'⟩
      case measure => simp [vnat]; omega
    · have hkk : k = n := by omega
      subst hkk
      have hki : ¬ ((k : Int) < (k : Int)) := by omega
      obtain ⟨hBk, hTk⟩ := HB.out
      rw [List.take_of_length_le (by rw [HN.out]; exact Nat.le_refl _)] at hBk
      have cb : wr.cell? ⟨u1.heap.size, 0, none⟩ = some (.pointer (some ⟨wb.heap.size, 0, none⟩)) := cell_at hbw 0
      have hla := ball_any hBk
      have hwr : Below w.heap.size w wr := hwv.trans (hbel.mono hws)
      have hstw := hsvr _ _ _ _ (by decide) (by decide) hsv
      have hrsw := hsvr _ _ _ _ (by decide) (by decide) hrv
      have hbase := hBk.pb
      clear HB hsvr hdv hsv hrv hbb
      go_wp2_with (first | (go_at_call 7; (with_reducible refine hla.mono ?_); rintro e u2 ⟨ac, cc, bx, bx2, rfl, hAL, hb2⟩; have hB2 := hBk.carry hb2; have hsep2 : ∀ g, ob ad = some g → ob ac ≠ some g := (fun g e1 e2 => by have := (own_blk hAL.cl.row g (by rw [ob_eq]; exact e2)).1; have := lt_at (hBk.blk e1).2.choose_spec; omega); have hJ2 : JG w wb a1 ad0 k cap0 wb.heap.size u1.heap.size bx2 bx wr.heap.size ac cc ps (snt ls) ad u2 := ⟨(hb2.block _ (lt_at hdw)).trans hdw, (hb2.block _ (lt_at hstw)).trans hstw, (hb2.block _ (lt_at hrsw)).trans hrsw, (hb2.block _ (lt_at hbw)).trans hbw, ⟨_, _, _, _, hB2⟩, hAL, hsep2, bel2 hwr hb2⟩; clear hla) | (go_at_call 4; (with_reducible refine (hal _).mono ?_); rintro e u3 ⟨rfl, hb3⟩; have hJ3 := hJ2.carry hb3; have hB3 := hB2.carry hb3; have cb3 : u3.cell? ⟨u1.heap.size, 0, none⟩ = some (.pointer (some ⟨wb.heap.size, 0, none⟩)) := cell_at hJ3.bb 0; have hse := send_any hB3 7 7 none 0 [] (fun h => absurd rfl h) (fun h => absurd rfl h) byt_nil (by omega) (by omega); obtain ⟨r, hr⟩ : ∃ r, sSend 50 (k : Int) (snt ls) 7 7 [] = r := ⟨_, rfl⟩; rw [hr] at hse; obtain ⟨r1, r2, r3, r4⟩ := r; dsimp only [List.length_nil] at hse; clear hJ2 hr) | (go_at_call 6; (with_reducible refine hse.mono ?_); rintro e u4 ⟨rfl, ad4, cap4, ps4, hB4, hT4⟩; have hJ4 := hJ3.tn hws hB3 hT4 hB4; have cb4 : u4.cell? ⟨u1.heap.size, 0, none⟩ = some (.pointer (some ⟨wb.heap.size, 0, none⟩)) := cell_at hJ4.bb 0; have hta := take_any hB4 0; obtain ⟨r, hr⟩ : ∃ r, sTk r4 0 = r := ⟨_, rfl⟩; rw [hr] at hta; obtain ⟨⟨x0, x1, x2, x3⟩, s2, s4⟩ := r; unfold gV at hta; dsimp only at hta; clear hJ3 hr hse) | (go_at_call 8; (with_reducible refine hta.mono ?_); rintro e u5 ⟨ya, yc, rfl, hown5, ad5, cap5, ps5, hB5, hT5⟩; have hJ5 := hJ4.tn hws hB4 hT5 hB5; clear hJ4 hta hown5))
      clear hB2 hB3 hB4 hT4 hT5 cb cb3 cb4 hAL hBk hTk hstw hrsw hdw hbw cd hB5
      refine (wpIn_wide (n := 0)).1 ?_
      have hpsn : ps.length ≤ 65536 := by have := hJ5.al.cl.len; rw [this, snt_len, HN.out]; omega
      refine wpIn_loop (fun a Wo => ∃ (q : Nat) (ks : List Nat) (ad : Option Addr), q ≤ 2 ∧ a.tmps.size = 120 ∧ a.tmps.getD 2 undef = .pointer (some ⟨w.heap.size, 0, none⟩) ∧ a.tmps.getD 3 undef = .pointer (some ⟨w.heap.size + 1, 0, none⟩) ∧ a.tmps.getD 4 undef = .pointer (some ⟨w.heap.size + 2, 0, none⟩) ∧ a.tmps.getD 5 undef = .pointer (some ⟨u1.heap.size, 0, none⟩) ∧ a.tmps.getD 8 undef = .func (.func 15) #[] #[.pointer (some ⟨bx2, 0, none⟩)] ∧ a.tmps.getD 9 undef = .int .i64 ((q : Nat) : Int) ∧ a.defers = ks.map mark ∧ Marks wb.heap.size ks Wo ∧ JG w wb a1 ad0 k cap0 wb.heap.size u1.heap.size bx2 bx wr.heap.size ac cc ps (snt ls) ad Wo) (fun a _ => 2 - vnat (a.tmps.getD 9 undef)) ?_ ?_
      · exact ⟨0, [], ad5, by omega, rfl, rfl, rfl, rfl, rfl, rfl, rfl, rfl, Marks.nil _ _, hJ5⟩
      · rintro ⟨X, DD⟩ Wo ⟨q, ks, adA, hq, hsz, g2, g3, g4, g5, g8, g9, hdd, hmk, hJW⟩
        clear hJ5
        dsimp only at hsz g2 g3 g4 g5 g8 g9 hdd
        obtain ⟨U, hU, hX⟩ := frame_eq X hsz
        rw [(hU 2).trans g2, (hU 3).trans g3, (hU 4).trans g4, (hU 5).trans g5, (hU 8).trans g8, (hU 9).trans g9] at hX
        clear hU g2 g3 g4 g5 g8 g9 hsz
        subst hX hdd
        have hwo : wb.heap.size ≤ Wo.heap.size := by obtain ⟨_, _, _, _, hB⟩ := hJW.bg; exact Nat.le_of_lt hB.plt
        have hwz3 := HWZ.out
        by_cases hq2 : q < 2
        · have hqi : (q : Int) < 2 := by omega
          have HNO : Hid (wb.heap.size = w.heap.size + 3) := hwz3
          clear hwz3
          gi_wp2
          obtain ⟨W1, hW1⟩ : ∃ W1, Wo.alloc (.cells #[.int .i64 0] 3) = W1 := ⟨_, rfl⟩
          have z1 : W1.heap.size = Wo.heap.size + 1 := by rw [← hW1]; simp
          have n1 : W1.heap[Wo.heap.size]? = some (.cells #[.int .i64 0] 3 (0, 0)) := by rw [← hW1]; exact new_at rfl
          have j1 : JG w wb a1 ad0 k cap0 wb.heap.size u1.heap.size bx2 bx wr.heap.size ac cc ps (snt ls) adA W1 := by rw [← hW1]; exact hJW.carry (al1' Wo _)
          have m1 : Marks wb.heap.size ks W1 := by rw [← hW1]; exact hmk.carry (al1' Wo _)
          have mlt : ∀ r ∈ ks, r < Wo.heap.size := hmk.lt
          have qx := lt_at hJW.al.b1
          have s1 : ∀ g, ob adA = some g → g < W1.heap.size ∨ W1.heap.size + 5 ≤ g := fun g e => by
            obtain ⟨_, _, _, _, hB⟩ := j1.bg
            exact .inl (lt_at (hB.blk e).2.choose_spec)
          try rw [hW1]
          clear hW1 hJW hmk
          refine wp_rangeR (kb := 0) (gf := 15) (lb := #[.pointer (some ⟨bx2, 0, none⟩)]) rfl (enters_of Try.func15 (by kernel_rfl) rfl)
            (ball1_seq wr.heap.size ac cc ps (snt ls) bx bx2 W1 hpsn j1.al.cl j1.al.b1 j1.al.b2) (by omega) (fun pre x vs V h => by obtain ⟨_, _, h, _⟩ := h; rw [h]; rfl)
            (fun pre Wz => (∃ adz, JG w wb a1 ad0 k cap0 wb.heap.size u1.heap.size bx2 bx wr.heap.size ac cc ps (snt ls) adz Wz ∧ ∀ g, ob adz = some g → g < W1.heap.size ∨ W1.heap.size + 5 ≤ g) ∧ (Marks wb.heap.size ks Wz ∧ Wz.heap[Wo.heap.size]? = some (.cells #[.int .i64 (pre.length : Nat)] 3 (0, 0))))
            (fun co pre Wz => (∃ adz, JG w wb a1 ad0 k cap0 wb.heap.size u1.heap.size bx2 bx wr.heap.size ac cc ps (snt ls) adz Wz) ∧ (Marks wb.heap.size ks Wz ∧ (Wz.heap[Wo.heap.size]? = some (.cells #[.int .i64 (pre.length : Nat)] 3 (0, 0)) ∧ (co = .exit 4 ∧ (pre.length : Int) = a1))))
            (fun s X Y row hs hg hr => by
              obtain ⟨⟨adz, hj, hs1⟩, hm, hn⟩ := hs
              have hc := Cl.grown hg (fun r e => (hr r e).2)
              exact ⟨⟨adz, hj.cl hc (hj.be.grown hg hj.be.size (fun r e => by have := (hr r e).1; omega)), hs1⟩, marks_own (β := Unit) (B := W1.heap.size) (fun r hr2 => by have := mlt r hr2; omega) () X Y row hm hg hr, hc _ _ _ _ hn⟩)
            (fun co s X Y row hs hg hr => by
              obtain ⟨⟨adz, hj⟩, hm, hn, he⟩ := hs
              have hc := Cl.grown hg (fun r e => (hr r e).2)
              exact ⟨⟨adz, hj.cl hc (hj.be.grown hg hj.be.size (fun r e => by have := (hr r e).1; omega))⟩, marks_own (β := Unit) (B := W1.heap.size) (fun r hr2 => by have := mlt r hr2; omega) () X Y row hm hg hr, hc _ _ _ _ hn, he⟩)
            ⟨⟨adA, j1, s1⟩, m1, n1⟩ (fun pre V h => by obtain ⟨⟨_, hj, _⟩, _⟩ := h; exact hj.al.cl)
            (fun pre x a' Wz => ∃ Bq aq cq, a'.tmps.size = 120 ∧ a'.tmps.getD 2 undef = .pointer (some ⟨w.heap.size, 0, none⟩) ∧ a'.tmps.getD 3 undef = .pointer (some ⟨w.heap.size + 1, 0, none⟩) ∧ a'.tmps.getD 4 undef = .pointer (some ⟨w.heap.size + 2, 0, none⟩) ∧ a'.tmps.getD 5 undef = .pointer (some ⟨u1.heap.size, 0, none⟩) ∧ a'.tmps.getD 10 undef = .pointer (some ⟨Wo.heap.size, 0, none⟩) ∧ a'.tmps.getD 11 undef = .int .i64 (pre.length : Int) ∧ a'.tmps.getD 12 undef = .pointer (some ⟨Bq, 0, none⟩) ∧ a'.defers = [] ∧ GB Wz Bq x.1 x.2.1 x.2.2.1 (.slice aq x.2.2.2.length cq) ∧ Wz.ownsRow W1.heap.size 5 1 (.slice aq x.2.2.2.length cq) x.2.2.2.length (cB x.2.2.2))
            (fun pre x a' s X Y row hs hg hr => by
              obtain ⟨Bq, aq, cq, e0, e1, e2, e3, e4, e5, e6, e7, e8, h1, h2⟩ := hs
              have hc := Cl.grown hg (fun r e => (hr r e).2)
              exact ⟨Bq, aq, cq, e0, e1, e2, e3, e4, e5, e6, e7, e8, hc _ _ _ _ h1, hc.row h2⟩) ?assign ?body ?done ?stop
          case assign =>
            rintro lp pre ⟨xi, xf, xt, xd⟩ vs Wz K ⟨⟨adz, hj, hs1⟩, hm, hn⟩ hsz ⟨aq, cq, rfl, ho⟩ hK
            unfold gV
            gi_wp2
            have hb1 := al1' Wz (.cells #[.int .i64 xi, .int .i64 xf, .int .i64 xt, .slice aq xd.length cq] 35)
            refine hK _ _ (Kept.below hb1 (by omega) (by omega)) ⟨⟨adz, hj.carry hb1, hs1⟩, hm.carry hb1, old_at hn⟩ ?_
            exact ⟨_, aq, cq, rfl, rfl, rfl, rfl, rfl, rfl, rfl, rfl, rfl, new_at rfl, row_below ho hb1⟩
          case body =>
            rintro lp pre x ⟨X, DD⟩ Wz ⟨⟨adz, hj, hs1⟩, hm, hn⟩ ⟨Bq, aq, cq, hxz, g2, g3, g4, g5, g10, g11, g12, hdd, hG, ho⟩ hsz hpr
            dsimp only at hxz g2 g3 g4 g5 g10 g11 g12 hdd
            obtain ⟨U', hU, hX⟩ := frame_eq X hxz
            rw [(hU 2).trans g2, (hU 3).trans g3, (hU 4).trans g4, (hU 5).trans g5, (hU 10).trans g10, (hU 11).trans g11, (hU 12).trans g12] at hX
            clear hU g2 g3 g4 g5 g10 g11 g12 hxz
            subst hX hdd
            have hx := pfx_get hpr
            have hlt : pre.length < k := by have := (List.getElem?_eq_some_iff.1 hx).1; rw [snt_len, HN.out] at this; exact this
            obtain ⟨d, hd⟩ : ∃ d, ls[pre.length]? = some d := ⟨_, List.getElem?_eq_getElem (by rw [HN.out]; exact hlt)⟩
            rw [snt_get hd] at hx
            obtain rfl := (Option.some.inj hx).symm
            dsimp only at hG ho
            have hd1 := hsm d (List.mem_of_getElem? hd)
            obtain ⟨bd, od, ab, cb, hade, hbd, c0, hu, hy⟩ := (w0.carry hj.be) pre.length d hd
            have HAD : Hid (ad0 = some ⟨bd, od, none⟩) := hade
            have hrdq : RdB Wz aq d := (RdY.own ho).rd
            have hru : RdB Wz ab d := hu.rd hj.be.size
            have hbdz : bd < Wz.heap.size := Nat.lt_of_lt_of_le hbd hj.be.size
            have HPL : Hid (pre.length < k) := hlt
            have HJ : Hid (JG w wb a1 ad0 k cap0 wb.heap.size u1.heap.size bx2 bx wr.heap.size ac cc ps (snt ls) adz Wz) := hj
            have HS : Hid (∀ g, ob adz = some g → g < W1.heap.size ∨ W1.heap.size + 5 ≤ g) := hs1
            have HM : Hid (Marks wb.heap.size ks Wz) := hm
            have HG : Hid (GB Wz Bq ((pre.length : Int) + 1) (pre.length : Int) (-(pre.length : Int)) (.slice aq d.length cq)) := hG
            have HNB : Hid (Wz.heap[Wo.heap.size]? = some (.cells #[.int .i64 (pre.length : Nat)] 3 (0, 0))) := hn
            clear hx hd hpr hj hs1 hm hG hn hu hade
            gi_wp2
            refine wpIn_region_any hmx ?_
            refine wpAnyIn_pure (fun i__ => ([(.int .i64 (pre.length : Int)), (.int .i64 (pre.length : Int)), (.bool false), (.bool false), (.int .i64 (pre.length : Int)), (.slice ad0 k cap0), (.int .i64 (k : Int)), (.bool false), (.bool false), (.bool false), (.pointer (some ⟨Bq, 0, none⟩)), (.int .i64 ((pre.length : Int) + 1)), (.int .i64 (pre.length : Int)), (.int .i64 ((pre.length : Int) + 1)), (.bool false), (.bool false), (.bool false), (.pointer (some ⟨Bq, 1, none⟩)), (.int .i64 (pre.length : Int)), (.int .i64 (pre.length : Int)), (.bool false), (.bool false), (.bool false), (.pointer (some ⟨Bq, 2, none⟩)), (.int .i64 (-(pre.length : Int))), (.int .i64 (pre.length : Int)), (.int .i64 (-(pre.length : Int))), (.bool false), (.bool false), (.bool false), (.pointer (some ⟨Bq, 3, none⟩)), (.slice aq d.length cq), (.slice ad0 k cap0), (.int .i64 (pre.length : Int)), (.pointer (some ⟨bd, od + pre.length, none⟩)), (.slice ab d.length cb), (.bool true), (.bool false), (.bool false)] : List Value).getD i__ undef) (fun V => Below Wz.heap.size Wz V) (by kernel_rfl) (Below.refl _ _).drew ?_ ?_
            · refine (stepsFrom_cons ?_ (stepsFrom_cons ?_ (stepsFrom_cons ?_ (stepsFrom_cons ?_ (stepsFrom_cons ?_ (stepsFrom_cons ?_ (stepsFrom_cons ?_ (stepsFrom_cons ?_ (stepsFrom_cons ?_ (stepsFrom_cons ?_ (stepsFrom_cons ?_ (stepsFrom_cons ?_ (stepsFrom_cons ?_ (stepsFrom_cons ?_ (stepsFrom_cons ?_ (stepsFrom_cons ?_ (stepsFrom_cons ?_ (stepsFrom_cons ?_ (stepsFrom_cons ?_ (stepsFrom_cons ?_ (stepsFrom_cons ?_ (stepsFrom_cons ?_ (stepsFrom_cons ?_ (stepsFrom_cons ?_ (stepsFrom_cons ?_ (stepsFrom_cons ?_ (stepsFrom_cons ?_ (stepsFrom_cons ?_ (stepsFrom_cons ?_ (stepsFrom_cons ?_ (stepsFrom_cons ?_ (stepsFrom_cons ?_ (stepsFrom_cons ?_ (stepsFrom_cons ?_ (stepsFrom_cons ?_ (stepsFrom_cons ?_ (stepsFrom_cons ?_ (stepsFrom_cons ?_ (stepsFrom_cons ?_ trivial)))))))))))))))))))))))))))))))))))))))
              · exact stepJ_move (wideF_round _) rfl trivial _ rfl (by kernel_rfl)
              · exact stepJ_load (wideF_round _) rfl trivial _ _ _ rfl rfl (fun v hw => load_i (cell_at ((hw.block _ (lt_at HNB.out)).trans HNB.out) 0))
              · exact stepJ_binOp (wideF_round _) rfl trivial _ _ _ _ _ _ _ rfl rfl rfl (fun v hw => (bin_neq .i64 _ _).trans (by simp))
              · exact stepJ_move (wideF_round _) rfl trivial _ rfl (by kernel_rfl)
              · exact stepJ_load (wideF_round _) rfl (by exact ⟨_, rfl, by kernel_rfl⟩) _ _ _ rfl rfl (fun v hw => load_i (cell_at ((hw.block _ (lt_at HNB.out)).trans HNB.out) 0))
              · exact stepJ_load (wideF_round _) rfl (by exact ⟨_, rfl, by kernel_rfl⟩) _ _ _ rfl rfl (fun v hw => load_Y ((hw.block _ (lt_at HJ.out.dt)).trans HJ.out.dt))
              · exact stepJ_bi (wideF_round _) rfl (by exact ⟨_, rfl, by kernel_rfl⟩) _ _ _ [(.slice ad0 k cap0)] rfl (by kernel_rfl) (fun cs v hw => bi_lenYY _ cs _ k cap0 v)
              · exact stepJ_binOp (wideF_round _) rfl (by exact ⟨_, rfl, by kernel_rfl⟩) _ _ _ _ _ _ _ rfl rfl rfl (fun v hw => (bin_geq .i64 _ _).trans (by rw [decide_eq_false (show ¬ ((pre.length : Int) ≥ (k : Int)) by have := HPL.out; omega)]; rfl))
              · exact stepJ_pick (wideF_round _) rfl trivial _ _ _ false rfl (by kernel_rfl) (by kernel_rfl)
              · exact stepJ_move (wideF_round _) rfl trivial _ rfl (by kernel_rfl)
              · exact stepJ_fieldAddr (wideF_round _) rfl (by exact ⟨_, rfl, by kernel_rfl⟩) _ _ _ _ rfl rfl (fun v hw => fld_g v _ 0 (by decide))
              · exact stepJ_load (wideF_round _) rfl (by exact ⟨_, rfl, by kernel_rfl⟩) _ _ _ rfl rfl (fun v hw => load_i (HG.out.carry hw).c0)
              · exact stepJ_load (wideF_round _) rfl (by exact ⟨_, rfl, by kernel_rfl⟩) _ _ _ rfl rfl (fun v hw => load_i (cell_at ((hw.block _ (lt_at HNB.out)).trans HNB.out) 0))
              · exact stepJ_binOp (wideF_round _) rfl (by exact ⟨_, rfl, by kernel_rfl⟩) _ _ _ _ _ _ _ rfl rfl rfl (fun v hw => bin_add64 _ _ _ (i64_id _ (by have := HPL.out; omega) (by have := HPL.out; omega)))
              · exact stepJ_binOp (wideF_round _) rfl (by exact ⟨_, rfl, by kernel_rfl⟩) _ _ _ _ _ _ _ rfl rfl rfl (fun v hw => (bin_neq .i64 _ _).trans (by simp))
              · exact stepJ_pick (wideF_round _) rfl trivial _ _ _ false rfl (by kernel_rfl) (by kernel_rfl)
              · exact stepJ_move (wideF_round _) rfl trivial _ rfl (by kernel_rfl)
              · exact stepJ_fieldAddr (wideF_round _) rfl (by exact ⟨_, rfl, by kernel_rfl⟩) _ _ _ _ rfl rfl (fun v hw => fld_g v _ 1 (by decide))
              · exact stepJ_load (wideF_round _) rfl (by exact ⟨_, rfl, by kernel_rfl⟩) _ _ _ rfl rfl (fun v hw => load_i (HG.out.carry hw).c1)
              · exact stepJ_load (wideF_round _) rfl (by exact ⟨_, rfl, by kernel_rfl⟩) _ _ _ rfl rfl (fun v hw => load_i (cell_at ((hw.block _ (lt_at HNB.out)).trans HNB.out) 0))
              · exact stepJ_binOp (wideF_round _) rfl (by exact ⟨_, rfl, by kernel_rfl⟩) _ _ _ _ _ _ _ rfl rfl rfl (fun v hw => (bin_neq .i64 _ _).trans (by simp))
              · exact stepJ_pick (wideF_round _) rfl trivial _ _ _ false rfl (by kernel_rfl) (by kernel_rfl)
              · exact stepJ_move (wideF_round _) rfl trivial _ rfl (by kernel_rfl)
              · exact stepJ_fieldAddr (wideF_round _) rfl (by exact ⟨_, rfl, by kernel_rfl⟩) _ _ _ _ rfl rfl (fun v hw => fld_g v _ 2 (by decide))
              · exact stepJ_load (wideF_round _) rfl (by exact ⟨_, rfl, by kernel_rfl⟩) _ _ _ rfl rfl (fun v hw => load_i (HG.out.carry hw).c2)
              · exact stepJ_load (wideF_round _) rfl (by exact ⟨_, rfl, by kernel_rfl⟩) _ _ _ rfl rfl (fun v hw => load_i (cell_at ((hw.block _ (lt_at HNB.out)).trans HNB.out) 0))
              · exact stepJ_unOp (wideF_round _) rfl (by exact ⟨_, rfl, by kernel_rfl⟩) _ _ _ _ rfl rfl (fun v hw => un_neg pre.length (by have := HPL.out; omega) v)
              · exact stepJ_binOp (wideF_round _) rfl (by exact ⟨_, rfl, by kernel_rfl⟩) _ _ _ _ _ _ _ rfl rfl rfl (fun v hw => (bin_neq .i64 _ _).trans (by simp))
              · exact stepJ_pick (wideF_round _) rfl trivial _ _ _ false rfl (by kernel_rfl) (by kernel_rfl)
              · exact stepJ_move (wideF_round _) rfl trivial _ rfl (by kernel_rfl)
              · exact stepJ_fieldAddr (wideF_round _) rfl (by exact ⟨_, rfl, by kernel_rfl⟩) _ _ _ _ rfl rfl (fun v hw => fld_g v _ 3 (by decide))
              · exact stepJ_load (wideF_round _) rfl (by exact ⟨_, rfl, by kernel_rfl⟩) _ _ _ rfl rfl (fun v hw => load_b (HG.out.carry hw).c3)
              · exact stepJ_load (wideF_round _) rfl (by exact ⟨_, rfl, by kernel_rfl⟩) _ _ _ rfl rfl (fun v hw => load_Y ((hw.block _ (lt_at HJ.out.dt)).trans HJ.out.dt))
              · exact stepJ_load (wideF_round _) rfl (by exact ⟨_, rfl, by kernel_rfl⟩) _ _ _ rfl rfl (fun v hw => load_i (cell_at ((hw.block _ (lt_at HNB.out)).trans HNB.out) 0))
              · exact stepJ_indexAddr (wideF_round _) rfl (by exact ⟨_, rfl, by kernel_rfl⟩) _ _ _ _ _ rfl rfl rfl (fun v hw => idx_Y2 HAD.out k cap0 pre.length HPL.out v)
              · exact stepJ_load (wideF_round _) rfl (by exact ⟨_, rfl, by kernel_rfl⟩) _ _ _ rfl rfl (fun v hw => load_b ((hw.cell (p := ⟨bd, _, none⟩) hbdz).trans c0))
              · exact stepJ_call (wideF_round _) rfl (by exact ⟨_, rfl, by kernel_rfl⟩) 9 _ _ [(.slice aq d.length cq), (.slice ab d.length cb)] rfl (by kernel_rfl) (enters_of Try.func9 (by kernel_rfl) rfl) (fun v hw => (sameB_yes aq ab cq cb d v (hrdq.carry hw) (hru.carry hw) (by omega)).mono (by rintro e w' ⟨rfl, hb⟩; exact ⟨rfl, bel2 hw hb⟩))
              · exact stepJ_unOp (wideF_round _) rfl (by exact ⟨_, rfl, by kernel_rfl⟩) _ _ _ _ rfl rfl (fun v hw => un_not true v)
              · exact stepJ_pick (wideF_round _) rfl trivial _ _ _ false rfl (by kernel_rfl) (by kernel_rfl)
            intro W hW
            first | refine hK _ _ ?_ | refine (‹∀ (a : Act) (w : World), Code.wpIn _ _ Try.prog _ _ a w → _›) _ _ ?_
            simp only [finL, List.getD_cons_zero, List.getD_cons_succ, Nat.zero_add, Nat.reduceAdd, List.setIfInBounds_toArray, List.set_cons_zero, List.set_cons_succ]
            obtain ⟨Wy, hWy⟩ : ∃ Wy, W = Wy := ⟨_, rfl⟩
            rw [hWy] at hW ⊢
            clear hWy
            have hjy := HJ.out.carry hW
            have hmy := HM.out.carry hW
            have hny := (hW.block _ (lt_at HNB.out)).trans HNB.out
            obtain ⟨capz, laz, psz, lz, hBz⟩ := hjy.bg
            have hsp := spoil_any hBz 0 1 1
            obtain ⟨r, hr⟩ : ∃ r, sSp lz 0 1 1 = r := ⟨_, rfl⟩
            rw [hr] at hsp
            obtain ⟨s2, s4⟩ := r
            dsimp only at hsp
            have cbb : Wy.cell? ⟨u1.heap.size, 0, none⟩ = some (.pointer (some ⟨wb.heap.size, 0, none⟩)) := cell_at hjy.bb 0
            have hszy := hW.size
            clear hr
            have kpt : ∀ (u7 : World) (ad7 : Option Addr), Bg Wy wb.heap.size wb.heap.size adz capz 50 laz psz lz → Tn wb.heap.size (ob adz) (ob ad7) Wy u7 → Kept bx W1.heap.size (3 + 2) Wz (u7.setCell ⟨Wo.heap.size, 0, none⟩ (.int .i64 ((pre.length : Int) + 1))) := fun u7 ad7 hb ht => by
              have k1 : Kept bx W1.heap.size (3 + 2) Wz Wy := Kept.below hW (by omega) (by omega)
              have k2 : Kept bx W1.heap.size (3 + 2) Wy u7 := ⟨ht.size, (hb.sv ht _ _ _ _ (by decide) (by decide) hjy.al.b1).trans hjy.al.b1.symm, fun r h1 h2 => ht.block r (by omega) (by omega) (fun e => by have := HS.out r e.symm; omega)⟩
              exact (k1.trans k2).trans (Kept.setCell (by omega) (.inl (by omega)))
            have hs7 : ∀ (u7 : World) (ad7 : Option Addr), Tn wb.heap.size (ob adz) (ob ad7) Wy u7 → ∀ g, ob ad7 = some g → g < W1.heap.size ∨ W1.heap.size + 5 ≤ g := fun u7 ad7 ht g e => by
              rcases ht.own with h | h
              · exact HS.out g (h ▸ e)
              · have := h g e
                omega
            have hp41 : pre.length < 41 := by have := HPL.out; omega
            by_cases hst5 : (pre.length : Int) + 1 = a1
            · have t4 : ((pre.length : Int) + 1 == a1) = true := by simp [hst5]
              have HST : Hid ((pre.length : Int) + 1 = a1) := hst5
              clear hst5
              gi_wp2
              refine ⟨trivial, rfl, ?_⟩
              refine (callsIn_wide.2 hsp).mono ?_
              rintro e u7 ⟨rfl, ad7, cap7, ps7, hB7, hT7⟩
              have hn7 := hBz.sv hT7 _ _ _ _ (by decide) (by decide) hny
              have hj7 := hjy.tn hws hBz hT7 hB7
              have hm7 := hmy.tn hBz hT7
              have cn7 : u7.cell? ⟨Wo.heap.size, 0, none⟩ = some (.int .i64 (pre.length : Int)) := cell_at hn7 0
              have zn7 := thaw_at hn7 0
              obtain ⟨u8, hu8⟩ : ∃ u8, u7.setCell ⟨Wo.heap.size, 0, none⟩ (.int .i64 ((pre.length : Int) + 1)) = u8 := ⟨_, rfl⟩
              have hn8 : u8.heap[Wo.heap.size]? = some (.cells #[.int .i64 ((pre.length : Int) + 1)] 3 (0, 0)) := (by rw [← hu8]; exact set_b hn7 _)
              have hj8 : JG w wb a1 ad0 k cap0 wb.heap.size u1.heap.size bx2 bx wr.heap.size ac cc ps (snt ls) ad7 u8 := (by rw [← hu8]; exact hj7.seti hn7 (by have := HNO.out; omega) (by have := HNO.out; omega) _)
              have hm8 : Marks wb.heap.size ks u8 := (by rw [← hu8]; exact hm7.set hn7 _)
              have cn8 : u8.cell? ⟨Wo.heap.size, 0, none⟩ = some (.int .i64 ((pre.length : Int) + 1)) := cell_at hn8 0
              have cs8 : u8.cell? ⟨w.heap.size + 1, 0, none⟩ = some (.int .i64 a1) := cell_at hj8.st 0
              have HKP : Hid (Kept bx W1.heap.size (3 + 2) Wz u8) := (by rw [← hu8]; exact kpt u7 ad7 hBz hT7)
              gi_wp2
              exact ⟨HKP.out, ⟨ad7, hj8⟩, hm8, by simpa using hn8, rfl, by simpa using HST.out⟩
            · have t4 : ((pre.length : Int) + 1 == a1) = false := by simp [hst5]
              clear hst5
              gi_wp2
              refine ⟨trivial, rfl, ?_⟩
              refine (callsIn_wide.2 hsp).mono ?_
              rintro e u7 ⟨rfl, ad7, cap7, ps7, hB7, hT7⟩
              have hn7 := hBz.sv hT7 _ _ _ _ (by decide) (by decide) hny
              have hj7 := hjy.tn hws hBz hT7 hB7
              have hm7 := hmy.tn hBz hT7
              have cn7 : u7.cell? ⟨Wo.heap.size, 0, none⟩ = some (.int .i64 (pre.length : Int)) := cell_at hn7 0
              have zn7 := thaw_at hn7 0
              obtain ⟨u8, hu8⟩ : ∃ u8, u7.setCell ⟨Wo.heap.size, 0, none⟩ (.int .i64 ((pre.length : Int) + 1)) = u8 := ⟨_, rfl⟩
              have hn8 : u8.heap[Wo.heap.size]? = some (.cells #[.int .i64 ((pre.length : Int) + 1)] 3 (0, 0)) := (by rw [← hu8]; exact set_b hn7 _)
              have hj8 : JG w wb a1 ad0 k cap0 wb.heap.size u1.heap.size bx2 bx wr.heap.size ac cc ps (snt ls) ad7 u8 := (by rw [← hu8]; exact hj7.seti hn7 (by have := HNO.out; omega) (by have := HNO.out; omega) _)
              have hm8 : Marks wb.heap.size ks u8 := (by rw [← hu8]; exact hm7.set hn7 _)
              have cn8 : u8.cell? ⟨Wo.heap.size, 0, none⟩ = some (.int .i64 ((pre.length : Int) + 1)) := cell_at hn8 0
              have cs8 : u8.cell? ⟨w.heap.size + 1, 0, none⟩ = some (.int .i64 a1) := cell_at hj8.st 0
              have HKP : Hid (Kept bx W1.heap.size (3 + 2) Wz u8) := (by rw [← hu8]; exact kpt u7 ad7 hBz hT7)
              gi_wp2
              exact ⟨HKP.out, ⟨ad7, hj8, hs7 _ _ hT7⟩, hm8, by simpa using hn8⟩
          case done =>
            rintro Wz ⟨⟨adz, hj, hs1⟩, hm, hn⟩ hK
            rw [snt_len, HN.out] at hn
            have cn : Wz.cell? ⟨Wo.heap.size, 0, none⟩ = some (.int .i64 (k : Int)) := cell_at hn 0
            have cd2 : Wz.cell? ⟨w.heap.size, 0, none⟩ = some (.slice ad0 k cap0) := cell_at hj.dt 0
            have HJ : Hid (JG w wb a1 ad0 k cap0 wb.heap.size u1.heap.size bx2 bx wr.heap.size ac cc ps (snt ls) adz Wz) := hj
            have hmm : Marks wb.heap.size (W1.heap.size :: ks) Wz := hm.cons (by omega) (fun r hr => by have := mlt r hr; omega) hK
            clear hj hn hm hK hs1
            gi_wp2
            refine ⟨⟨q + 1, W1.heap.size :: ks, adz, by omega, rfl, rfl, rfl, rfl, rfl, rfl, rfl, rfl, hmm, HJ.out⟩, ?_⟩
            show 2 - vnat (.int .i64 ((q : Int) + 1)) < 2 - vnat (.int .i64 (q : Int))
            simp only [vnat]
            omega
          case stop =>
            rintro co pre Wz hpr ⟨⟨adz, hj⟩, hm, hn, rfl, hst5⟩ hK
            have cn : Wz.cell? ⟨Wo.heap.size, 0, none⟩ = some (.int .i64 (pre.length : Nat)) := cell_at hn 0
            have cd2 : Wz.cell? ⟨w.heap.size, 0, none⟩ = some (.slice ad0 k cap0) := cell_at hj.dt 0
            have cs2 : Wz.cell? ⟨w.heap.size + 1, 0, none⟩ = some (.int .i64 a1) := cell_at hj.st 0
            have HJ : Hid (JG w wb a1 ad0 k cap0 wb.heap.size u1.heap.size bx2 bx wr.heap.size ac cc ps (snt ls) adz Wz) := hj
            have hmm : Marks wb.heap.size (W1.heap.size :: ks) Wz := hm.cons (by omega) (fun r hr => by have := mlt r hr; omega) hK
            rw [hst5] at cn
            clear hj hn hm hK
            by_cases hel : a1 = (k : Int)
            · have t5 : (a1 != (k : Int)) = false := by simp [hel]
              clear hel
              gi_wp2
              refine ⟨⟨q + 1, W1.heap.size :: ks, adz, by omega, rfl, rfl, rfl, rfl, rfl, rfl, rfl, rfl, hmm, HJ.out⟩, ?_⟩
              show 2 - vnat (.int .i64 ((q : Int) + 1)) < 2 - vnat (.int .i64 (q : Int))
              simp only [vnat]
              omega
            · have t5 : (a1 != (k : Int)) = true := by simp [hel]
              have t6 : (a1 != a1) = false := by simp
              clear hel
              gi_wp2
              refine ⟨⟨q + 1, W1.heap.size :: ks, adz, by omega, rfl, rfl, rfl, rfl, rfl, rfl, rfl, rfl, hmm, HJ.out⟩, ?_⟩
              show 2 - vnat (.int .i64 ((q : Int) + 1)) < 2 - vnat (.int .i64 (q : Int))
              simp only [vnat]
              omega
        · have hq5 : q = 2 := by omega
          subst hq5
          gi_wp2
          refine (wpIn_wide (n := 0)).1 ?_
          gi_wp2
          with_reducible (refine And.intro (wfn _) (And.intro wdep ?_))
          refine (callsIn_wide.2 (hal _)).mono ?_
          rintro e z4 ⟨rfl, hb4⟩
          have j4 := hJW.carry hb4
          have m4 := hmk.carry hb4
          have c4 : z4.cell? ⟨w.heap.size + 2, 0, none⟩ = some (.bool false) := cell_at j4.rs 0
          have f4 := thaw_at j4.rs 0
          have m5 : Marks wb.heap.size ks (z4.setCell ⟨w.heap.size + 2, 0, none⟩ (.bool true)) := m4.set j4.rs _
          have g5 : (z4.setCell ⟨w.heap.size + 2, 0, none⟩ (.bool true)).heap[w.heap.size + 2]? = some (.cells #[.bool true] 4 (0, 0)) := set_b j4.rs _
          have b5' : Below w.heap.size w (z4.setCell ⟨w.heap.size + 2, 0, none⟩ (.bool true)) := j4.be.setCell (p := ⟨w.heap.size + 2, 0, none⟩) (by simp) _
          clear j4 m4 hJW hmk
          gi_wp2
          refine leaves_marks ks _ m5 ?_
          intro W' hbW hcW
          have g6 := hcW _ _ g5 rfl
          have c6 := cell_at g6 0
          simp at c6
          exact ⟨.bool true, by simp [results, Try.results3, go_sem, c6], rfl, b5'.trans (hbW.mono (by omega))⟩
set_option maxHeartbeats 8000000 in
set_option maxRecDepth 100000 in
theorem walk (w : World) (ad0 : Option Addr) (cap0 : Nat) (l0 : List (List Nat)) (w0 : RdYY w w.heap.size ad0 l0) (hc0 : l0.length ≤ cap0) (hm0 : cap0 ≤ maxLen) (a1 : Int) (w1 : (Lit.int .i64 a1).wf = true) :
    Calls Try.prog 3 #[.slice ad0 l0.length cap0, .int .i64 a1] w fun e w' => e = .returned (.bool true) ∧ Below w.heap.size w w' := by
  have hal := alive_any
  have hmx : Try.prog.follows .mixedOrders = true := by kernel_rfl
  obtain ⟨wb, hwb⟩ : ∃ wb, ((w.alloc (.cells #[.slice ad0 l0.length cap0] 22)).alloc (.cells #[.int .i64 a1] 3)).alloc (.cells #[.bool false] 4) = wb := ⟨_, rfl⟩
  have hdt : wb.heap[w.heap.size]? = some (.cells #[.slice ad0 l0.length cap0] 22 (0, 0)) := by rw [← hwb]; exact old_at (old_at (new_at rfl))
  have hrs : wb.heap[w.heap.size + 2]? = some (.cells #[.bool false] 4 (0, 0)) := by rw [← hwb]; exact new_at (by simp)
  have hww : Below w.heap.size w wb := by rw [← hwb]; exact bel2 (bel2 (al1' _ _) (al1' _ _)) (al1' _ _)
  have cd0 : wb.cell? ⟨w.heap.size, 0, none⟩ = some (.slice ad0 l0.length cap0) := cell_at hdt 0
  by_cases h40 : l0.length ≤ 40
  case neg =>
    have h40i : (l0.length : Int) > 40 := by omega
    go_enter Try.func3, Try.ntmps3
    go_wp2_with (go_at_call 4; (with_reducible refine (hal _).mono ?_); rintro e z4 ⟨rfl, hb4⟩; have r4 := (hb4.block _ (lt_at hrs)).trans hrs; have c4 : z4.cell? ⟨w.heap.size + 2, 0, none⟩ = some (.bool false) := cell_at r4 0; have f4 := thaw_at r4 0)
    exact retBo rfl rfl rfl (set_b r4 _) ⟨rfl, (bel2 hww hb4).setCell (p := ⟨w.heap.size + 2, 0, none⟩) (by simp) _⟩
  by_cases hsm : ∀ d ∈ l0, d.length ≤ 1000
  · exact callsIn_wide.1 (goes_in w ad0 cap0 l0 a1 w0 h40 hsm)
  have h40i : ¬ ((l0.length : Int) > 40) := by omega
  have hne := new_ok 50 wb (by decide) (by decide)
  obtain ⟨n, hn⟩ : ∃ n, l0.length = n := ⟨_, rfl⟩
  have HN : Hid (l0.length = n) := hn
  have HSM : Hid (¬ ∀ d ∈ l0, d.length ≤ 1000) := hsm
  rw [hn] at h40 h40i hdt cd0 hwb ⊢
  clear hn hsm
  go_enter Try.func3, Try.ntmps3
  go_wp2_with (go_at_call 5; (with_reducible refine hne.mono ?_); rintro e u1 ⟨rfl, hB1, hb1⟩; obtain ⟨v1, hv1⟩ : ∃ v1, u1.alloc (.cells #[.pointer (some ⟨wb.heap.size, 0, none⟩)] 24) = v1 := ⟨_, rfl⟩)
  have hbv : Below u1.heap.size u1 v1 := by rw [← hv1]; exact al1' _ _
  have hBv := hB1.carry hbv
  have hbwv : Below wb.heap.size wb v1 := bel2 hb1 hbv
  have hbb : v1.heap[u1.heap.size]? = some (.cells #[.pointer (some ⟨wb.heap.size, 0, none⟩)] 24 (0, 0)) := by rw [← hv1]; exact new_at rfl
  have hdv := (hbwv.block _ (lt_at hdt)).trans hdt
  have hrv := (hbwv.block _ (lt_at hrs)).trans hrs
  have hwv : Below w.heap.size w v1 := bel2 hww hbwv
  have hO1 : RdYY v1 w.heap.size ad0 l0 := w0.carry hwv
  have hws : w.heap.size ≤ wb.heap.size := hww.size
  clear hv1 hB1 hbv hdt hrs cd0 hwb w0
  go_loopw [7] (fun iv wz => ∃ (k : Nat) (ad : Option Addr) (cap : Nat) (ps : List Nat), iv = .int .i64 k ∧ k ≤ n ∧ Hid (Bg wz wb.heap.size wb.heap.size ad cap 50 (k : Int) ps (snt (l0.take k)) ∧ Tn wb.heap.size (ob none) (ob ad) v1 wz ∧ ∀ d ∈ l0.take k, d.length ≤ 1000)) (fun iv _ => n - vnat iv)
  case atStart => exact ⟨0, none, 0, [], rfl, Nat.zero_le _, hBv, Tn.of _ _ (Below.refl _ _), by simp⟩
  case round =>
    obtain ⟨k, ad, cap, ps, rfl, hk, HB⟩ := hrel
    have hsvr : Sv v1 wr := hBv.sv HB.out.2.1
    have hdw := hsvr _ _ _ _ (by decide) (by decide) hdv
    have hbw := hsvr _ _ _ _ (by decide) (by decide) hbb
    have hrw := hsvr _ _ _ _ (by decide) (by decide) hrv
    have cd : wr.cell? ⟨w.heap.size, 0, none⟩ = some (.slice ad0 n cap0) := cell_at hdw 0
    have hbel : Below wb.heap.size v1 wr := hBv.below HB.out.2.1
    by_cases hkn : k < n
    · have hki : (k : Int) < (n : Int) := by omega
      obtain ⟨d, hd⟩ : ∃ d, l0[k]? = some d := ⟨_, List.getElem?_eq_getElem (by rw [HN.out]; exact hkn)⟩
      obtain ⟨b, off, a, c, rfl, hb, c0, hu, hy⟩ := (hO1.carry (hbel.mono hws)) k d hd
      have hix := idx_Y b off n cap0 k hkn
      by_cases hd1 : d.length ≤ 1000
      · have hdi : ¬ ((d.length : Int) > 1000) := by omega
        have htk : l0.take (k + 1) = l0.take k ++ [d] := by rw [List.take_add_one, hd]; rfl
        have hlk : (l0.take k).length = k := by rw [List.length_take, HN.out]; omega
        have hsn : snt (l0.take (k + 1)) = snt (l0.take k) ++ [((k : Int) + 1, (k : Int), -(k : Int), d)] := by rw [htk, snt_app, hlk]
        have hss : sSend 50 (k : Int) (snt (l0.take k)) (k : Int) (-(k : Int)) d = ((k : Int) + 1, 0, (k : Int) + 1, snt (l0.take (k + 1))) := by
          rw [hsn]
          unfold sSend sAdd
          rw [if_neg (by omega), if_neg (by rw [snt_len, hlk]; omega)]
        have HSS : Hid (sSend 50 (k : Int) (snt (l0.take k)) (k : Int) (-(k : Int)) d = ((k : Int) + 1, 0, (k : Int) + 1, snt (l0.take (k + 1)))) := hss
        have HTK : Hid (l0.take (k + 1) = l0.take k ++ [d]) := htk
        clear hss hsn htk hlk hd
        go_wp2
        refine wp_region_any hmx ?_
        refine wpAny_last 8 (fun i__ => ([(.pointer (some ⟨wb.heap.size, 0, none⟩)), (.int .i64 (k : Int)), (.int .i64 (k : Int)), (.int .i64 (-(k : Int))), (.slice (some ⟨b, off, none⟩) n cap0), (.int .i64 (k : Int)), (.pointer (some ⟨b, off + k, none⟩)), (.slice a d.length c), (.tuple #[.int .i64 ((k : Int) + 1), .int .i64 0])] : List Value).getD i__ undef) (fun V => Bg V wb.heap.size wb.heap.size ad cap 50 (k : Int) ps (snt (l0.take k)) ∧ Below wr.heap.size wr V) (fun V => ∃ ad' cap' ps', Bg V wb.heap.size wb.heap.size ad' cap' 50 ((k : Int) + 1) ps' (snt (l0.take (k + 1))) ∧ Tn wb.heap.size (ob none) (ob ad') v1 V) rfl (by kernel_rfl) (by kernel_rfl) ⟨HB.out.1.carry (Below.refl _ _).drew, (Below.refl _ _).drew⟩ ?_ ?_  ?_
        · refine (stepsFrom_cons ?_ (stepsFrom_cons ?_ (stepsFrom_cons ?_ (stepsFrom_cons ?_ (stepsFrom_cons ?_ (stepsFrom_cons ?_ (stepsFrom_cons ?_ (stepsFrom_cons ?_ trivial))))))))
          · exact step_load rfl trivial _ _ _ rfl rfl (fun v hw => load_bp ((hw.2.block _ (lt_at hbw)).trans hbw))
          · exact step_move rfl trivial _ rfl (by kernel_rfl)
          · exact step_move rfl trivial _ rfl (by kernel_rfl)
          · exact step_unOp rfl trivial _ _ _ _ rfl rfl (fun v hw => un_neg k (by omega) v)
          · exact step_load rfl trivial _ _ _ rfl rfl (fun v hw => load_Y ((hw.2.block _ (lt_at hdw)).trans hdw))
          · exact step_move rfl trivial _ rfl (by kernel_rfl)
          · exact step_indexAddr rfl trivial _ _ _ _ _ rfl rfl rfl (fun v hw => idx_Y b off n cap0 k hkn v)
          · exact step_load rfl trivial _ _ _ rfl rfl (fun v hw => load_b ((hw.2.cell (p := ⟨b, _, none⟩) (by show b < wr.heap.size; have := hwv.size; have := hbel.size; omega)).trans c0))
        · intro o ho
          cases ho
          exact step_call rfl trivial 6 _ _ [(.pointer (some ⟨wb.heap.size, 0, none⟩)), (.int .i64 (k : Int)), (.int .i64 (-(k : Int))), (.slice a d.length c)] rfl (by kernel_rfl) (enters_of Try.func6 (by kernel_rfl) rfl) (fun v hw => by have hse := send_any hw.1 (k : Int) (-(k : Int)) a c d ((hu.rd (by have := hwv.size; have := hbel.size; omega)).carry hw.2) (fun hn a' e => by obtain ⟨b', off', e1, e2, _⟩ := hu hn; rw [e1] at e; cases e; show b' ≠ wb.heap.size; omega) hy (by omega) (by omega); rw [HSS.out] at hse; exact hse.mono (by rintro e w' ⟨rfl, ad', cap', ps', hB', hT'⟩; exact ⟨rfl, ad', cap', ps', hB', (HB.out.2.1.trans (Tn.of _ _ hw.2)).trans hT'⟩))
        intro W hW
        first | refine hK _ _ ?_ | refine (‹∀ (a : Act) (w : World), Code.wp Try.prog _ _ a w → _›) _ _ ?_
        simp only [finL, List.getD_cons_zero, List.getD_cons_succ, Nat.zero_add, Nat.reduceAdd, List.setIfInBounds_toArray, List.set_cons_zero, List.set_cons_succ]
        obtain ⟨ad', cap', ps', hB', hT'⟩ := hW
        go_wp2
        go_roundw
        case rel => exact ⟨k + 1, ad', cap', ps', by simp, by omega, by simpa using hB', hT', fun d' hd' => by
          rw [HTK.out] at hd'
          rcases List.mem_append.1 hd' with h | h
          · exact HB.out.2.2 d' h
          · simp at h
            rw [h]
            exact hd1⟩
        case measure => simp [vnat]; omega
      · have hdi : (d.length : Int) > 1000 := by omega
        clear hd
        go_wp2_with (go_at_call 4; (with_reducible refine (hal _).mono ?_); rintro e z4 ⟨rfl, hb4⟩; have r4 := (hb4.block _ (lt_at hrw)).trans hrw; have c4 : z4.cell? ⟨w.heap.size + 2, 0, none⟩ = some (.bool false) := cell_at r4 0; have f4 := thaw_at r4 0)
        exact retBo rfl rfl rfl (set_b r4 _) ⟨rfl, (bel2 (hwv.trans (hbel.mono hws)) hb4).setCell (p := ⟨w.heap.size + 2, 0, none⟩) (by simp) _⟩
    · have hkk : k = n := by omega
      subst hkk
      refine absurd (fun d hd => ?_) HSM.out
      have h := HB.out.2.2 d
      rw [List.take_of_length_le (by rw [HN.out]; exact Nat.le_refl _)] at h
      exact h hd

set_option maxRecDepth 100000 in
theorem lifted (os : Os) (started : os.Started) (H : Type) (enc : TypeId × Value → H) :
    ReturnsInHanded {} Try.checked os 3 .any (Rows.bagGoesSpec.pre6 enc Try.prog Try.f3 Rows.bagGoesRow.domain false) (Rows.bagGoesSpec.post enc Try.prog Try.f3 false true false false) := by
  refine returnsInHanded_of_change (C := Try.checked) own started (by kernel_rfl) Try.func3
    (ChangeSpec.witness6 (enc := enc) (C := Try.checked) false ⟨#[], #[.slice none 0 0, .int .i64 0], []⟩ 8 (by kernel_rfl) (by kernel_rfl) (by kernel_rfl) (by kernel_rfl)) ?_
  intro W base args ds gs before hval0 hW hcnd _
  have hval : ∀ (j : Nat) t v, Try.f3.params[j]? = some t → args[j]? = some v → Value.okWide Try.prog W .any base t v := hval0
  have hW' := hW
  obtain ⟨p, q, hA0, hV, rfl, hfz, hnd⟩ := hW
  have hA : DataW.TrodAll enc Try.prog W 0 (fun _ => true) true Try.f3.params.toList args.toList ds p := hA0
  rw [Try.params3] at hA hval
  obtain ⟨v0, vs0, d0, ds0, p0, q0, hargs, rfl, rfl, h0, r0⟩ := trodAll_cons hA
  obtain ⟨v1, vs1, d1, ds1, p1, q1, rfl, rfl, rfl, h1, r1⟩ := trodAll_cons r0
  obtain ⟨rfl, rfl, rfl⟩ := trodAll_nil r1
  obtain rfl : args = #[v0, v1] := by cases args; simp_all
  obtain ⟨rfl, rfl⟩ := trodVars_none hV
  have k0 := h0
  have lt0 : ∀ x ∈ p0, x.block < W.heap.size := by obtain ⟨m, hm⟩ := k0; exact DataW.trod_lt m _ _ _ hm
  obtain ⟨ad0, cap0, l0, rfl, w0, hc0, hm0⟩ := open_byss (hval 0 22 v0 rfl rfl) h0
  obtain ⟨a1, rfl, rfl, rfl, w1⟩ := open_int Try.underlying3 (hval 1 3 v1 rfl rfl) h1
  clear hA0 hval0
  refine (walk W ad0 cap0 l0 w0 hc0 hm0 a1 w1).mono fun e W' ⟨he, hg⟩ => ?_
  subst he
  exact ⟨_, rfl, _, _, _, [], _, [], hW', (trodAll_cons_mk (shut_bool Try.underlying4 _) trodAll_mk0), (trodAll_cons_mk (Below.trod laidOut (by kernel_rfl) (of_decide_eq_true (by kernel_rfl)) k0 hg lt0) (trodAll_cons_mk (shut_int Try.underlying3 w1) trodAll_mk0)), rfl, hg.frame _, fun h => by cases h⟩

theorem over : Rows.bagGoesRow.holds Try.pinned (OpenSpec.ofChange Rows.bagGoesSpec) :=
  OpenClaim.holds_of_wide 3 Try.f3 rfl rfl rfl rfl rfl rfl rfl ⟨rfl, rfl, rfl, rfl, rfl⟩ rfl rfl rfl rfl rfl (by kernel_rfl) Try.func3 (by kernel_rfl)
    (of_decide_eq_true (by kernel_rfl)) (by unfold Func.isWrapper; first | (rw [if_pos (by decide +kernel)]; kernel_rfl) | (rw [if_neg (by decide +kernel)]; exact ⟨rfl, rfl⟩))
    (fun os started H enc _ => lifted os started H enc)

theorem proved : Rows.BagGoesSaid :=
  over
#print axioms proved
end Go.Proofs.Ytenahcdmdhlieab
