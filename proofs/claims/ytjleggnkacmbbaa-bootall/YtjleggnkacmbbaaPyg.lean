/- The step of the play: Open; any step. -/
import Derived.Test.YtjleggnkacmbbaaPyf
namespace Go.Proofs.Ytjleggnkacmbbaa
open Go.RowKit Go.Shelf Go.Lib

/-- While a new Boot is put in the old one's place. -/
structure Jz (w : World) (gb Q q' p lb r c R : Nat) (B b1 : Bo) (d1 : Dst) (V : World) : Prop where
  bb : BB V gb Q p lb B
  bt : Bt V q' (some ⟨p, 0, none⟩) b1
  dk : Dk V p d1
  rf : RfD V lb 0 w.heap.size r c d1
  rx : V.heap[R]? = some (.cells (rbA b1) 71 (0, 0))
  bl : Below w.heap.size w V
  hg : w.heap.size ≤ gb
section
variable {w V V' : World} {x gb q q' Q p lb r c R : Nat} {k a : Int} {b b' b1 B : Bo} {d d' d1 : Dst}
theorem Jz.drew (h : Jz w gb Q q' p lb r c R B b1 d1 V) : Jz w gb Q q' p lb r c R B b1 d1 V.drew := ⟨h.bb.carry (Below.refl _ _).drew, h.bt.carry (Below.refl _ _).drew, h.dk.carry (Below.refl _ _).drew, h.rf.carry (Below.refl _ _).drew, h.rx, h.bl.drew, h.hg⟩
theorem Jz.tp (h : Jz w gb Q q' p lb r c R B b1 d1 V) {Q2 : Nat} {B2 : Bo} (hb : BB V' gb Q2 p lb B2) (ht : Tp gb V V') : Jz w gb Q2 q' p lb r c R B2 b1 d1 V' := by
  obtain ⟨cur, h1⟩ := h.rf.lk
  obtain ⟨_, cur2, h2⟩ := h.rf.rb
  have a1 := h.bb
  have a2 := h.bt
  have a3 := h.dk.obj
  unfold BB at a1
  unfold Bt at a2
  have n1 : q' ≠ gb := ne_ty a2 a1 (by decide)
  have n2 : p ≠ gb := ne_ty a3 a1 (by decide)
  have n3 : lb ≠ gb := ne_ty h1 a1 (by decide)
  have n4 : r ≠ gb := ne_ty h2 a1 (by decide)
  have n5 : R ≠ gb := ne_ty h.rx a1 (by decide)
  exact ⟨hb, (ht.block _ (lt_at a2) n1).trans a2, ⟨(ht.block _ h.dk.lt n2).trans a3, h.dk.len, h.dk.byt⟩, h.rf.same (ht.block _ h.rf.lt.1 n3) (ht.block _ h.rf.lt.2 n4), (ht.block _ (lt_at h.rx) n5).trans h.rx, h.bl.trans (ht.below h.hg h.bl.size), h.hg⟩
theorem BB.set0 (h : BB V gb Q p lb B) (q' : Nat) : BB (V.setCell ⟨gb, 0, none⟩ (.pointer (some ⟨q', 0, none⟩))) gb q' p lb B ∧ Tp gb V (V.setCell ⟨gb, 0, none⟩ (.pointer (some ⟨q', 0, none⟩))) := ⟨heap_setCell_same _ _ _ _ _ _ h, Tp.set _ _ _ _⟩
theorem BB.putB (h : BB V gb Q p lb B) (b1 : Bo) : BB (V.setRow gb (splice (boC Q p lb B) 2 (rbA b1).toList).toArray) gb Q p lb b1 ∧ Tp gb V (V.setRow gb (splice (boC Q p lb B) 2 (rbA b1).toList).toArray) := by
  refine ⟨?_, Tp.row _ _ _⟩
  unfold BB
  rw [setRow_heap _ _ _ _ _ _ h]
  rfl
theorem store_b0 (h : BB V gb Q p lb B) (q' : Nat) : (Instr.storeAt 28 (.pointer (some ⟨gb, 0, none⟩)) (.pointer (some ⟨q', 0, none⟩))).run Try.prog V = .ok () (V.setCell ⟨gb, 0, none⟩ (.pointer (some ⟨q', 0, none⟩))) := by
  have c := h.cs.1
  have t := thaw_at h 0
  go_simp
theorem store_bB (h : BB V gb Q p lb B) (b1 : Bo) : (Instr.storeAt 71 (.pointer (some ⟨gb, 2, none⟩)) (.agg (rbA b1))).run Try.prog V = .ok () (V.setRow gb (splice (boC Q p lb B) 2 (rbA b1).toList).toArray) :=
  run_store_in (P := Try.prog) V gb 2 77 71 (boC Q p lb B) (rbA b1).toList h infoRB (by unfold boC rbA; simp) (by simp [rbA, Value.oneCell'])
theorem load_rb {R : Nat} (h : V.heap[R]? = some (.cells (rbA b1) 71 (0, 0))) : (Instr.loadAt 71 (.pointer (some ⟨R, 0, none⟩))).run Try.prog V = .ok (.agg (rbA b1)) V := by
  have := run_loadVar_row (P := Try.prog) V R 71 71 (rbA b1) (0, 0) _ h undRB rfl infoRB
  simp only [Instr.loadAt, Instr.sureAddr, Sem.run_bind, Sem.run_pure, Result.andThen_ok, this]
theorem P2.young {v v' : World} (h : P2 w gb q p lb r c b d b' d' v) (hb : Below v.heap.size v v') {X : Nat} (hX : v.heap.size ≤ X) (C : Array Value) : P2 w gb q p lb r c b d b' d' (v'.setRow X C) := h.carry (below_setRow hb hX _)
set_option maxHeartbeats 16000000 in
set_option maxRecDepth 100000 in
theorem step_3 (h : P2 w gb q p lb r c b d b d V) {M : Int} (hI : Iv d b M) (hM : M ≤ 1000000) : Calls Try.prog 34 #[.pointer (some ⟨gb, 0, none⟩), .agg #[.int .i64 3, .int .i64 a]] V fun e w' => e = .returned (.bool true) ∧ ∃ q', P2 w gb q' p lb r c (if (dOp d).e = 0 then (dOp d).b else b) (dOp d).d (if (dOp d).e = 0 then (dOp d).b else b) (dOp d).d w' := by
  have hmx : Try.prog.follows .mixedOrders = true := by kernel_rfl
  obtain ⟨w1, hw1⟩ : ∃ w1, V.alloc (.cells #[.int .i64 3, .int .i64 a] 80) = w1 := ⟨_, rfl⟩
  have hb1 : Below V.heap.size V w1 := by rw [← hw1]; exact al1' _ _
  have hX : JX w V.heap.size 3 a gb q p lb r c b d b d w1 := ⟨h.carry hb1, by rw [← hw1]; exact new_at rfl⟩
  have o0 := cell_at hX.2 0
  have o1 := cell_at hX.2 1
  simp at o0 o1
  obtain ⟨q0, q1, q2, q3, q4, q5, q6, q7, q8⟩ := hX.1.bb.cs
  obtain ⟨o1', o2', o3', o4'⟩ := Iv.open (M := M) hI.fz hI.w0 hI.wm
  have hw0 := hI.w0
  have hwm := hI.wm
  have hfz := hI.fz
  have hpo := open_any hX.1.dk hfz hw0 (by omega)
  have hro := fun Y (hY : RfD Y lb 0 w.heap.size r c d) => rOpen_any hY hfz hw0 (by omega)
  obtain ⟨E, hE⟩ : ∃ E, (dOp d).e = E := ⟨_, rfl⟩
  obtain ⟨d1, hd1⟩ : ∃ d1, (dOp d).d = d1 := ⟨_, rfl⟩
  obtain ⟨b1, hb1e⟩ : ∃ b1, (dOp d).b = b1 := ⟨_, rfl⟩
  simp only [hE, hd1, hb1e] at hpo hro ⊢
  clear hE hd1 hb1e o1' o2' o3' o4'
  by_cases hz : E = 0
  case neg =>
    rw [if_neg hz]
    have hp2 : Calls Try.prog 12 #[.pointer (some ⟨p, 0, none⟩)] w1 fun e w' => e = .returned (.tuple #[.pointer none, .int .i64 E]) ∧ Dk w' p d1 ∧ Tp p w1 w' := hpo.mono (by rintro e w' ⟨_, h2, h3, h4⟩; exact ⟨h2 hz, h3, h4⟩)
    have hr2 : ∀ Y, RfD Y lb 0 w.heap.size r c d → Calls Try.prog 33 #[.pointer (some ⟨lb, 0, none⟩)] Y fun e w' => e = .returned (.tuple #[.agg z6A, .int .i64 E]) ∧ RfD w' lb 0 w.heap.size r c d1 ∧ Tf lb 0 r Y w' := fun Y hY => (hro Y hY).mono (by rintro e w' ⟨_, h2, h3, h4⟩; exact ⟨h2 hz, h3, h4⟩)
    clear hpo hro
    go_enter Try.func34, Try.ntmps34
    go_wp2_with (first | (go_at_call 12; (with_reducible refine hp2.mono ?_); rintro e v1 ⟨rfl, h1, h2⟩; have hX1 := hX.tp h1 h2; have c8 := hX1.1.bb.cs.2.2.2.2.2.2.2.2; have hr3 := hr2 _ hX1.1.rf) | (go_at_call 33; (with_reducible refine hr3.mono ?_); rintro e v2 ⟨rfl, h3, h4⟩; have hX2 := hX1.tf h3 h4; obtain ⟨v3, hv3⟩ : ∃ v3, v2.alloc (.cells #[.int .i64 0, .int .i64 0, .int .i64 0, .int .i64 0, .int .i64 0, .int .i64 0] 71) = v3 := ⟨_, rfl⟩; have hX3 : JX w V.heap.size 3 a gb q p lb r c b d1 b d1 v3 := (by rw [← hv3]; exact hX2.carry (al1' _ _)); have hg3 : v3.heap[v2.heap.size]? = some (.cells z6A 71 (0, 0)) := (by rw [← hv3]; exact new_at rfl); have hlt3 := hX2) | (refine wpList_store_row rfl 71 (.tmp 12) (.tmp 91) rfl v2.heap.size z6A rfl rfl 71 _ hg3 infoRB rfl (by simp [z6A, Value.oneCell']) ?_; obtain ⟨v4, hv4⟩ : ∃ v4, v3.setRow v2.heap.size z6A = v4 := ⟨_, rfl⟩; have hX4 : P2 w gb q p lb r c b d1 b d1 v4 := (by rw [← hv4]; exact hX2.1.young (by rw [← hv3]; exact al1' _ _) (Nat.le_refl _) _); rw [hv4]))
    go_ret
    exact ⟨rfl, q, hX4⟩
  subst hz
  rw [if_pos rfl]
  have hp2 : Calls Try.prog 12 #[.pointer (some ⟨p, 0, none⟩)] w1 fun e w' => ∃ q', e = .returned (.tuple #[.pointer (some ⟨q', 0, none⟩), .int .i64 0]) ∧ w1.heap.size ≤ q' ∧ Bt w' q' (some ⟨p, 0, none⟩) b1 ∧ Dk w' p d1 ∧ Tp p w1 w' := hpo.mono (by rintro e w' ⟨h1, _, h3, h4⟩; obtain ⟨q', rfl, hq, hb⟩ := h1 rfl; exact ⟨q', rfl, hq, hb, h3, h4⟩)
  have hr2 : ∀ Y, RfD Y lb 0 w.heap.size r c d → Calls Try.prog 33 #[.pointer (some ⟨lb, 0, none⟩)] Y fun e w' => e = .returned (.tuple #[.agg (rbA b1), .int .i64 0]) ∧ RfD w' lb 0 w.heap.size r c d1 ∧ Tf lb 0 r Y w' := fun Y hY => (hro Y hY).mono (by rintro e w' ⟨h2, _, h3, h4⟩; exact ⟨h2 rfl, h3, h4⟩)
  clear hpo hro
  go_enter Try.func34, Try.ntmps34
  go_wp2_with (first | (go_at_call 12; (with_reducible refine hp2.mono ?_); rintro e v1 ⟨q', rfl, hq', hB', h1, h2⟩; have hX1 := hX.tp h1 h2; have c8 := hX1.1.bb.cs.2.2.2.2.2.2.2.2; have hr3 := hr2 _ hX1.1.rf) | (go_at_call 33; (with_reducible refine hr3.mono ?_); rintro e v2 ⟨rfl, h3, h4⟩; have hX2 := hX1.tf h3 h4; have hB2 : Bt v2 q' (some ⟨p, 0, none⟩) b1 := (h4.block _ (lt_at hB') (by have := (hX.1.rf).lt; omega) (by have := (hX.1.rf).lt; omega)).trans hB'; obtain ⟨v3, hv3⟩ : ∃ v3, v2.alloc (.cells #[.int .i64 0, .int .i64 0, .int .i64 0, .int .i64 0, .int .i64 0, .int .i64 0] 71) = v3 := ⟨_, rfl⟩; have hg3 : v3.heap[v2.heap.size]? = some (.cells z6A 71 (0, 0)) := (by rw [← hv3]; exact new_at rfl)) | (refine wpList_store_row rfl 71 (.tmp 12) (.tmp 91) rfl v2.heap.size (rbA b1) rfl rfl 71 _ hg3 infoRB rfl (by simp [rbA, Value.oneCell']) ?_; obtain ⟨v4, hv4⟩ : ∃ v4, v3.setRow v2.heap.size (rbA b1) = v4 := ⟨_, rfl⟩; have hX4 : P2 w gb q p lb r c b d1 b d1 v4 := (by rw [← hv4]; exact hX2.1.young (by rw [← hv3]; exact al1' _ _) (Nat.le_refl _) _); have hbl4 : Below v2.heap.size v2 v4 := (by rw [← hv4]; exact below_setRow (by rw [← hv3]; exact al1' _ _) (Nat.le_refl _) _); have hrx : v4.heap[v2.heap.size]? = some (.cells (rbA b1) 71 (0, 0)) := (by rw [← hv4]; exact setRow_heap _ _ _ _ _ _ hg3); have hZ : Jz w gb q q' p lb r c v2.heap.size b b1 d1 v4 := ⟨hX4.bb, hB2.carry hbl4, hX4.dk, hX4.rf, hrx, hX4.bl, hX4.hg⟩; rw [hv4]))
  rename_i hK
  refine wp_region_any hmx ?_
  refine wpAny_tabG (G := Unit) (fun g i__ => ([(.pointer (some ⟨gb, 0, none⟩)), (.pointer (some ⟨gb, 0, none⟩)), (.pointer (some ⟨q', 0, none⟩)), (.agg (rbA b1)), (.pointer (some ⟨gb, 0, none⟩)), (.pointer (some ⟨gb, 0, none⟩)), undef, (.pointer (some ⟨gb, 0, none⟩)), (.pointer (some ⟨gb, 2, none⟩)), undef] : List Value).getD i__ undef) (fun g_ f Y => Jz w gb (if f 6 = true then q' else q) q' p lb r c v2.heap.size (if f 9 = true then b1 else b) b1 d1 Y) (by kernel_rfl) (()) (show Jz w gb q q' p lb r c v2.heap.size b b1 d1 _ from hZ.drew) ?step1 ?fin1
  case step1 =>
    intro i o ho
    have hi : i < 10 := getElem?_lt ho
    match i, hi, ho with
    | 0, _, ho =>
      cases ho
      refine stepG_of (fun g d hdep => ?_)
      exact step_move rfl trivial _ rfl (by kernel_rfl)
    | 1, _, ho =>
      cases ho
      refine stepG_of (fun g d hdep => ?_)
      exact step_move rfl trivial _ rfl (by kernel_rfl)
    | 2, _, ho =>
      cases ho
      refine stepG_of (fun g d hdep => ?_)
      exact step_move rfl trivial _ rfl (by kernel_rfl)
    | 3, _, ho =>
      cases ho
      refine stepG_of (fun g d hdep => ?_)
      exact step_load rfl trivial _ _ _ rfl rfl (fun v hw => load_rb hw.rx)
    | 4, _, ho =>
      cases ho
      refine stepG_of (fun g d hdep => ?_)
      exact step_nilCheck rfl trivial _ _ _ rfl rfl rfl
    | 5, _, ho =>
      cases ho
      refine stepG_of (fun g d hdep => ?_)
      exact step_fieldAddr rfl trivial _ _ _ _ rfl rfl (fun v hw => (field_bo v _).1)
    | 6, _, ho =>
      cases ho
      refine stepG_of (fun g d hdep => ?_)
      exact step_store rfl trivial rfl _ _ _ _ _ rfl rfl rfl (fun v hw => ⟨_, store_b0 hw.bb q', hw.tp (hw.bb.set0 q').1 (hw.bb.set0 q').2⟩)
    | 7, _, ho =>
      cases ho
      refine stepG_of (fun g d hdep => ?_)
      exact step_nilCheck rfl trivial _ _ _ rfl rfl rfl
    | 8, _, ho =>
      cases ho
      refine stepG_of (fun g d hdep => ?_)
      exact step_fieldAddr rfl trivial _ _ _ _ rfl rfl (fun v hw => (field_bo v _).2.2.1)
    | 9, _, ho =>
      cases ho
      refine stepG_of (fun g d hdep => ?_)
      exact step_store rfl trivial rfl _ _ _ _ _ rfl rfl rfl (fun v hw => ⟨_, store_bB hw.bb b1, hw.tp (hw.bb.putB b1).1 (hw.bb.putB b1).2⟩)
  intro g d W hall hW
  first | refine hK _ _ ?_ | refine (‹∀ (a : Act) (w : World), Code.wp Try.prog _ _ a w → _›) _ _ ?_ | skip
  simp only [finL, List.getD_cons_zero, List.getD_cons_succ, Nat.zero_add, Nat.reduceAdd, List.setIfInBounds_toArray, List.set_cons_zero, List.set_cons_succ]
  simp only [hall 6 (by decide), hall 9 (by decide), if_true] at hW
  clear hK
  go_wp2
  go_ret
  exact ⟨rfl, q', hW.bb, hW.bt, hW.dk, hW.rf, hW.bl, hX4.hg, by have := hX.1.bl.size; omega, hX4.hp, hX4.hl⟩
/-- Any step. -/
theorem step_any {M : Int} (h : P2 w gb q p lb r c b d b d V) (o : Ob) (hI : Iv d b M) (hM : M ≤ 1000000) : Calls Try.prog 34 #[.pointer (some ⟨gb, 0, none⟩), .agg #[.int .i64 o.k, .int .i64 o.a]] V fun e w' => e = .returned (.bool true) ∧ ∃ q', P2 w gb q' p lb r c (dSt o d b).2 (dSt o d b).1 (dSt o d b).2 (dSt o d b).1 w' := by
  obtain ⟨k, a⟩ := o
  unfold dSt
  dsimp only
  by_cases h1 : k = 1
  · subst h1
    exact (step_1 h hI hM).mono (by rintro e w' ⟨rfl, h2⟩; exact ⟨rfl, q, h2⟩)
  rw [if_neg h1]
  by_cases h2 : k = 2
  · subst h2
    exact (step_2 h hI hM).mono (by rintro e w' ⟨rfl, h2⟩; exact ⟨rfl, q, h2⟩)
  rw [if_neg h2]
  by_cases h3 : k = 3
  · subst h3
    exact step_3 h hI hM
  rw [if_neg h3]
  by_cases h4 : k = 4
  · subst h4
    exact (step_4 h).mono (by rintro e w' ⟨rfl, h2⟩; exact ⟨rfl, q, h2⟩)
  rw [if_neg h4]
  by_cases h5 : k = 5
  · subst h5
    exact (step_5 h).mono (by rintro e w' ⟨rfl, h2⟩; exact ⟨rfl, q, h2⟩)
  rw [if_neg h5]
  by_cases h6 : k = 6
  · subst h6
    exact (step_6 h).mono (by rintro e w' ⟨rfl, h2⟩; exact ⟨rfl, q, h2⟩)
  rw [if_neg h6]
  by_cases h7 : k = 7
  · subst h7
    exact (step_7 h).mono (by rintro e w' ⟨rfl, h2⟩; exact ⟨rfl, q, h2⟩)
  exact (step_0 h h1 h2 h3 h4 h5 h6 h7).mono (by rintro e w' ⟨rfl, h2⟩; exact ⟨rfl, q, h2⟩)
end
end Go.Proofs.Ytjleggnkacmbbaa
