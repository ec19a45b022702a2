/- withSign, Parse: what they answer, at every roster and text. -/
import Derived.Test.YtnkpohkodkjkfaaGreatDoorJpJ27
import Derived.Test.YtnkpohkodkjkfaaGreatDoorJpJ16
set_option maxHeartbeats 40000000
set_option maxRecDepth 100000
set_option linter.unusedVariables false
namespace Go.Proofs.YtnkpohkodkjkfaaGreatDoor
open Go.RowKit Go.Shelf Go.Lib


theorem tk_sign {nb wb : Nat} {l : List Tk4} {i : Nat} {w : World} (h : Tk nb wb l i w) (x : Tk4) (hx : l[i]? = some x) (hl : l.length ≤ 1000000) (hk : x.1 = 2) (hs : ((starts x.2.1).length : Int) = 1) (ht : x.2.1.size ≤ maxLen) : Calls Tryz.prog 47 #[.func (.func 103) #[] #[], .pointer (some ⟨nb, 0, none⟩), .pointer (some ⟨wb, 0, none⟩)] w fun e w' => e = .returned (tk4 x) ∧ Tk nb wb l (i + 1) w' ∧ Ob nb w w' :=
  take_yes 103 #[] (enters_of Tryz.func103 (by kernel_rfl) rfl) h x hx hl (fun V _ => by
    have := isSign_any x.1 x.2.2.1 x.2.2.2 x.2.1 ht V
    rw [hk, hs] at this
    unfold tk4
    rw [hk]
    exact this)
/-- The sender is read: what lies where. -/
structure JS (nb wb b : Nat) (l : List Tk4) (i : Nat) (sl mp : Value) (w W : World) (d : Bool) : Prop where
  tk : Tk nb wb l (if d = true then i + 1 else i) W
  rd : RdBx W b sl mp nb wb
  ob : Ob nb w W
theorem JS.carry {nb wb b : Nat} {l : List Tk4} {i : Nat} {sl mp : Value} {w W V : World} {d : Bool} (h : JS nb wb b l i sl mp w W d) (hb : Below W.heap.size W V) : JS nb wb b l i sl mp w V d := ⟨h.tk.carry hb, (hb.block _ (lt_at h.rd)).trans h.rd, h.ob.trans (Ob.of hb)⟩
theorem load_tkr {W : World} {b : Nat} {sl mp : Value} {nb wb : Nat} (h : RdBx W b sl mp nb wb) : (Instr.loadAt 81 (.pointer (some ⟨b, 2, none⟩))).run Tryz.prog W = .ok (rdF nb wb) W := by
  have c2 : W.cell? ⟨b, 2, none⟩ = some (rdF nb wb) := (cell_at h 2).trans rfl
  unfold rdF at c2 ⊢
  go_simp
set_option maxHeartbeats 4000000 in
set_option maxRecDepth 100000 in
theorem sender_ok {M : Nat} {sl mp : Value} {L : List Int} {nb wb : Nat} {l : List Tk4} {i : Nat} {w : World} (hR : Ros M w (.agg #[sl, mp]) L) (hMn : M ≤ nb) (hM : M ≤ w.heap.size) (h : Tk nb wb l i w) (x : Tk4) (hx : l[i]? = some x) (hl : l.length ≤ 1000000) (hk : x.1 = 2) (hs : ((starts x.2.1).length : Int) = 1) (ht : x.2.1.size ≤ maxLen) (hin : ((rn x.2.1 0 : Nat) : Int) ∈ L) : Calls Tryz.prog 79 #[.agg #[sl, mp, rdF nb wb]] w fun e w' => e = .returned (.int .i64 (L.idxOf ((rn x.2.1 0 : Nat) : Int) : Int)) ∧ Tk nb wb l (i + 1) w' ∧ Ob nb w w' := by
  have hmx : Tryz.prog.follows .mixedOrders = true := by kernel_rfl
  obtain ⟨W1, hW1⟩ : ∃ W1, w.alloc (.cells #[sl, mp, rdF nb wb] 84) = W1 := ⟨_, rfl⟩
  have hb1 : Below w.heap.size w W1 := by rw [← hW1]; exact al1t _ _
  have hr1 : W1.heap[w.heap.size]? = some (.cells #[sl, mp, rdF nb wb] 84 (0, 0)) := by rw [← hW1]; exact new_at rfl
  have hj : Hid (JS nb wb w.heap.size l i sl mp w W1 false) := ⟨h.carry hb1, hr1, Ob.of hb1⟩
  have HR : Hid (∀ V, Ob nb w V → Ros M V (.agg #[sl, mp]) L) := fun V hV => hR.ob hV hMn hM
  have hnb := lt_at h.nx
  obtain ⟨V0, hV0⟩ : ∃ V0, (L.idxOf ((rn x.2.1 0 : Nat) : Int) : Int) = V0 := ⟨_, rfl⟩
  have hp0 := pos_of_one hs
  have HT : Hid (∀ V, Ob nb w V → Calls Tryz.prog 102 #[.agg #[sl, mp, rdF nb wb], tk4 x] V fun e w' => e = .returned (.int .i64 V0) ∧ Below V.heap.size V w') := fun V hV => by
    rw [← hV0]
    exact tid_ok (HR.out V hV) (Nat.le_trans hM hV.size) nb wb x.1 x.2.2.1 x.2.2.2 x.2.1 ht hp0 hin
  have HX : Hid (∀ V, JS nb wb w.heap.size l i sl mp w V false → Calls Tryz.prog 47 #[.func (.func 103) #[] #[], .pointer (some ⟨nb, 0, none⟩), .pointer (some ⟨wb, 0, none⟩)] V fun e w' => e = .returned (tk4 x) ∧ JS nb wb w.heap.size l i sl mp w w' true) := fun V hV => (tk_sign hV.tk x hx hl hk hs ht).mono (by
    rintro e w' ⟨rfl, h1, h2⟩
    exact ⟨rfl, h1, hV.rd.ob h2 (by omega), hV.ob.trans h2⟩)
  rw [hV0]
  clear hR h hr1 hx hin hV0 hb1
  unfold rdF at hW1 ⊢
  go_enter Tryz.func79, Tryz.ntmps79
  go_wp2
  rename_i Q0 K0 hK
  refine wp_region_any hmx ?_
  refine wpAny_tabG (G := (Unit)) (fun g i__ => ([(.agg #[sl, mp, rdF nb wb]), (.pointer (some ⟨w.heap.size, 2, none⟩)), (rdF nb wb), (tk4 x), (.int .i64 V0), (.int .i64 V0)] : List Value).getD i__ undef) (fun _ d V => JS nb wb w.heap.size l i sl mp w V (d 3)) (by kernel_rfl) (()) (hj.out.carry (Below.refl _ _).drew) ?step1 ?fin1
  case step1 =>
    intro i o ho
    have hi : i < 6 := getElem?_lt ho
    match i, hi, ho with
    | 0, _, ho =>
      cases ho
      refine stepG_of (fun g d hdep => ?_)
      exact step_load rfl trivial _ _ _ rfl rfl (fun v hw => load_rd hw.rd)
    | 1, _, ho =>
      cases ho
      refine stepG_of (fun g d hdep => ?_)
      exact step_fieldAddr rfl trivial _ _ _ _ rfl rfl (fun v hw => field_rd v _)
    | 2, _, ho =>
      cases ho
      refine stepG_of (fun g d hdep => ?_)
      exact step_load rfl trivial _ _ _ rfl rfl (fun v hw => load_tkr hw.rd)
    | 3, _, ho =>
      cases ho
      exact stepG_callv rfl (fun _ => trivial) 47 _ _ _ #[.pointer (some ⟨nb, 0, none⟩), .pointer (some ⟨wb, 0, none⟩)] (fun _ => [.func (.func 103) #[] #[]]) rfl (fun g => by kernel_rfl) (fun g => by kernel_rfl) (enters_of Tryz.func47 (by kernel_rfl) rfl) (fun g d V hJ hun hdep hcl => by rw [hun] at hJ; exact (HX.out V hJ).mono (by rintro e w' ⟨rfl, hb'⟩; exact ⟨(), rfl, (fun _ _ => rfl), hb'⟩))
    | 4, _, ho =>
      cases ho
      exact stepG_call rfl (fun _ => trivial) 102 _ _ (fun _ => [.agg #[sl, mp, rdF nb wb], tk4 x]) rfl (fun g => by kernel_rfl) (enters_of Tryz.func102 (by kernel_rfl) rfl) (fun g d V hJ hun hdep hcl => (HT.out V hJ.ob).mono (by rintro e w' ⟨rfl, hb'⟩; exact ⟨(), rfl, (fun _ _ => rfl), hJ.carry hb'⟩))
    | 5, _, ho =>
      cases ho
      refine stepG_of (fun g d hdep => ?_)
      exact step_assign rfl trivial _ rfl (by kernel_rfl) (fun _ h => h)
  intro g d W hall hW
  first | refine hK _ _ ?_ | refine (‹∀ (a : Act) (w : World), Code.wp Tryz.prog _ _ a w → _›) _ _ ?_ | skip
  simp only [finL, List.getD_cons_zero, List.getD_cons_succ, Nat.zero_add, Nat.reduceAdd, List.setIfInBounds_toArray, List.set_cons_zero, List.set_cons_succ]
  have hjW : JS nb wb w.heap.size l i sl mp w W true := by have := hW; rw [hall 3 (by decide)] at this; exact this
  clear hW hall hK
  go_wp2
  go_ret
  exact ⟨rfl, hjW.tk, hjW.ob⟩

/-- A word put into a new box. -/
theorem box_word (u : World) (x : Tk4) : ∃ u2 u3, u.alloc (.cells #[.int .i64 0, .string ⟨#[]⟩, .int .i64 0, .int .i64 0] 56) = u2 ∧ u2.setRow u.heap.size (tkC x) = u3 ∧ u2.heap[u.heap.size]? = some (.cells #[.int .i64 0, .string ⟨#[]⟩, .int .i64 0, .int .i64 0] 56 (0, 0)) ∧ u3.heap[u.heap.size]? = some (.cells (tkC x) 56 (0, 0)) ∧ Below u.heap.size u u3 ∧ u3.heap.size = u.heap.size + 1 := by
  refine ⟨_, _, rfl, rfl, new_at rfl, setRow_heap _ _ _ _ _ _ (new_at rfl), ?_, by simp [World.setRow]⟩
  exact ⟨rfl, rfl, rfl, by simp [World.setRow], fun q hq => (Go.setRow_other _ _ _ _ (by omega)).trans ((al1t u _).block q hq)⟩
theorem Tk.move {nb wb : Nat} {l : List Tk4} {i j : Nat} {w u V : World} (h0 : Tk nb wb l i w) (h : Tk nb wb l j u) (ho : Ob nb w V) (hn : V.heap[nb]? = u.heap[nb]?) : Tk nb wb l j V := by
  obtain ⟨ad, cap, h1, h2, h3⟩ := h0.wd
  have hne : wb ≠ nb := fun e => by
    have := h0.nx
    rw [← e, h1] at this
    simp only [Option.some.injEq, Obj.cells.injEq] at this
    exact absurd this.2.1 (by decide)
  exact ⟨hn.trans h.nx, ad, cap, (ho.block wb (lt_at h1) hne).trans h1, h2.at ho.size (fun b off e hb => ho.block b hb (h3 b off e)), h3⟩
theorem isNoticeMark_any (k l c : Int) (t : ByteArray) (w : World) : Calls Tryz.prog 130 #[tkV k t l c] w fun e w' => e = .returned (.bool ((k == 5 && t.toList == [63]) || (k == 5 && t.toList == [33]))) ∧ Below w.heap.size w w' := by
  have h1 := isMark_any k l c t ⟨#[63]⟩
  have h2 := isMark_any k l c t ⟨#[33]⟩
  rw [show (⟨#[63]⟩ : ByteArray).toList = [63] by kernel_rfl] at h1
  rw [show (⟨#[33]⟩ : ByteArray).toList = [33] by kernel_rfl] at h2
  obtain ⟨p, hp⟩ : ∃ p, (k == 5 && t.toList == [63]) = p := ⟨_, rfl⟩
  obtain ⟨q, hq⟩ : ∃ q, (k == 5 && t.toList == [33]) = q := ⟨_, rfl⟩
  rw [hp] at h1 ⊢
  rw [hq] at h2 ⊢
  clear hp hq
  unfold tkV at h1 h2 ⊢
  have hb0 := al1t w (.cells #[.int .i64 k, .string t, .int .i64 l, .int .i64 c] 56)
  cases p with
  | true =>
    go_enter Tryz.func130, Tryz.ntmps130
    go_wp2_with (go_at_call 129; (with_reducible refine (h1 _).mono ?_); rintro e u1 ⟨rfl, hb1⟩)
    go_ret
    exact ⟨rfl, hb0.trans (hb1.mono hb0.size)⟩
  | false =>
    obtain ⟨w1, hw1⟩ : ∃ w1, w.alloc (.cells #[.int .i64 k, .string t, .int .i64 l, .int .i64 c] 56) = w1 := ⟨_, rfl⟩
    have hr1 : w1.heap[w.heap.size]? = some (.cells #[.int .i64 k, .string t, .int .i64 l, .int .i64 c] 56 (0, 0)) := by rw [← hw1]; exact new_at rfl
    rw [hw1] at hb0
    have a0 : w1.cell? ⟨w.heap.size, 0, none⟩ = some (.int .i64 k) := (cell_at hr1 0).trans rfl
    have a1 : w1.cell? ⟨w.heap.size, 1, none⟩ = some (.string t) := (cell_at hr1 1).trans rfl
    have a2 : w1.cell? ⟨w.heap.size, 2, none⟩ = some (.int .i64 l) := (cell_at hr1 2).trans rfl
    have a3 : w1.cell? ⟨w.heap.size, 3, none⟩ = some (.int .i64 c) := (cell_at hr1 3).trans rfl
    go_enter Tryz.func130, Tryz.ntmps130
    go_wp2_with (first
      | (go_at_call 129; (have hzz := hb1); (with_reducible refine (h2 _).mono ?_); rintro e u2 ⟨rfl, hb2⟩)
      | (go_at_call 129; (with_reducible refine (h1 _).mono ?_); rintro e u1 ⟨rfl, hb1⟩; have hr2 := (hb1.block _ (lt_at hr1)).trans hr1; have b0 : u1.cell? ⟨w.heap.size, 0, none⟩ = some (.int .i64 k) := (cell_at hr2 0).trans rfl; have b1 : u1.cell? ⟨w.heap.size, 1, none⟩ = some (.string t) := (cell_at hr2 1).trans rfl; have b2 : u1.cell? ⟨w.heap.size, 2, none⟩ = some (.int .i64 l) := (cell_at hr2 2).trans rfl; have b3 : u1.cell? ⟨w.heap.size, 3, none⟩ = some (.int .i64 c) := (cell_at hr2 3).trans rfl))
    go_ret
    have hb01 := hb0.trans (hb1.mono hb0.size)
    exact ⟨rfl, hb01.trans (hb2.mono hb01.size)⟩
/-- Any test that a word passes. -/
theorem tk_of {nb wb : Nat} {l : List Tk4} {i : Nat} {w : World} (f : FuncId) (hen : ∀ args w, (callFunc f args).run Tryz.prog w = .ok (.enter f args) w) (h : Tk nb wb l i w) (x : Tk4) (hx : l[i]? = some x) (hl : l.length ≤ 1000000) (b : Bool) (hf : ∀ V, Calls Tryz.prog f #[tkV x.1 x.2.1 x.2.2.1 x.2.2.2] V fun e w' => e = .returned (.bool b) ∧ Below V.heap.size V w') (hb : b = true) : Calls Tryz.prog 47 #[.func (.func f) #[] #[], .pointer (some ⟨nb, 0, none⟩), .pointer (some ⟨wb, 0, none⟩)] w fun e w' => e = .returned (.agg (tkC x)) ∧ Tk nb wb l (i + 1) w' ∧ Ob nb w w' := by
  subst hb
  exact take_yes f #[] hen h x hx hl (fun V _ => hf V)
set_option maxHeartbeats 4000000 in
set_option maxRecDepth 100000 in
theorem round_ok {sl mp : Value} {nb wb : Nat} {l : List Tk4} {i : Nat} {w : World} (h : Tk nb wb l i w) (x : Tk4) (hx : l[i]? = some x) (hl : l.length ≤ 1000000) (hk : x.1 = 3) (ht : x.2.1.size ≤ maxLen) (v : Nat) (hv : numR x.2.1 = some v) (h1 : 1 ≤ v) (h2 : v ≤ 1099511627775) : Calls Tryz.prog 80 #[.agg #[sl, mp, rdF nb wb]] w fun e w' => e = .returned (.int .i64 (v : Int)) ∧ Tk nb wb l (i + 1) w' ∧ Ob nb w w' := by
  obtain ⟨W1, hW1⟩ : ∃ W1, w.alloc (.cells #[sl, mp, rdF nb wb] 84) = W1 := ⟨_, rfl⟩
  have hb1 : Below w.heap.size w W1 := by rw [← hW1]; exact al1t _ _
  have hr1 : W1.heap[w.heap.size]? = some (.cells #[sl, mp, rdF nb wb] 84 (0, 0)) := by rw [← hW1]; exact new_at rfl
  have HK := tk_of (w := W1) 104 (enters_of Tryz.func104 (by kernel_rfl) rfl) (h.carry hb1) x hx hl _ (isNumber_any _ _ _ _) (by rw [hk]; rfl)
  have HN := number_any x.2.1 ht
  rw [hv] at HN
  unfold numV at HN
  dsimp only at HN
  have HF := trefuse_no 73 x.1 x.2.2.1 x.2.2.2 x.2.1
  unfold tkV at HF
  have hnb := lt_at h.nx
  have d1 : decide ((v : Int) < 1) = false := decide_eq_false (by omega)
  have d2 : decide (1099511627775 < (v : Int)) = false := decide_eq_false (by omega)
  have c2 : W1.cell? ⟨w.heap.size, 2, none⟩ = some (rdF nb wb) := (cell_at hr1 2).trans rfl
  unfold rdF at c2 hW1 ⊢
  clear h hx hv h1 h2 hk
  unfold tkC at HK
  go_enter Tryz.func80, Tryz.ntmps80
  go_wp2_with (first
    | (go_at_call 48; (with_reducible refine (HF _).mono ?_); rintro e u5 ⟨rfl, hb5⟩)
    | (go_at_call 58; (with_reducible refine (HN _).mono ?_); rintro e u4 ⟨rfl, hb4⟩; (have r4 := (hb4.block _ (lt_at hr3)).trans hr3); (have t0 : u4.cell? ⟨u.heap.size, 0, none⟩ = some (.int .i64 x.1) := (cell_at r4 0).trans rfl); (have t1 : u4.cell? ⟨u.heap.size, 1, none⟩ = some (.string x.2.1) := (cell_at r4 1).trans rfl); (have t2 : u4.cell? ⟨u.heap.size, 2, none⟩ = some (.int .i64 x.2.2.1) := (cell_at r4 2).trans rfl); (have t3 : u4.cell? ⟨u.heap.size, 3, none⟩ = some (.int .i64 x.2.2.2) := (cell_at r4 3).trans rfl))
    | (refine wpList_store_row rfl 56 (.tmp 3) (.tmp 8) rfl u.heap.size (tkC x) rfl rfl 56 _ hr2 infoTk rfl (by simp [tkC, Value.oneCell']) ?_; rw [hu3]; (have p1 : u3.cell? ⟨u.heap.size, 1, none⟩ = some (.string x.2.1) := (cell_at hr3 1).trans rfl))
    | (go_at_call 47; (with_reducible refine HK.mono ?_); rintro e u ⟨rfl, hT, hO⟩; obtain ⟨u2, u3, hu2, hu3, hr2, hr3, hb3, hs3⟩ := box_word u x))
  go_ret
  have q1 : Below u.heap.size u u5 := bel3 (bel3 hb3 hb4) hb5
  exact ⟨rfl, hT.carry q1, (Ob.of hb1).trans (hO.trans (Ob.of q1))⟩
end Go.Proofs.YtnkpohkodkjkfaaGreatDoor
