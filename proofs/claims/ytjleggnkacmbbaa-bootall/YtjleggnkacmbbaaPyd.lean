/- The two that are played with; looks: what it answers. -/
import Derived.Test.YtjleggnkacmbbaaPyc
namespace Go.Proofs.Ytjleggnkacmbbaa
open Go.RowKit Go.Shelf Go.Lib

theorem ne_ty {W : World} {a b : Nat} {C D : Array Value} {s t : TypeId} (h : W.heap[a]? = some (.cells C s (0, 0))) (k : W.heap[b]? = some (.cells D t (0, 0))) (hn : s ≠ t) : a ≠ b := fun e => by
  rw [e, k] at h
  simp only [Option.some.injEq, Obj.cells.injEq] at h
  exact hn h.2.1.symm
/-- The program's Boot b on its disk d at q and p; the document's b' and d' at g and lb. -/
structure P2 (w : World) (g q p lb r c : Nat) (b : Bo) (d : Dst) (b' : Bo) (d' : Dst) (V : World) : Prop where
  bb : BB V g q p lb b'
  bt : Bt V q (some ⟨p, 0, none⟩) b
  dk : Dk V p d
  rf : RfD V lb 0 w.heap.size r c d'
  bl : Below w.heap.size w V
  hg : w.heap.size ≤ g
  hq : w.heap.size ≤ q
  hp : w.heap.size ≤ p
  hl : w.heap.size ≤ lb
section
variable {w V V' : World} {g q p lb r c : Nat} {b b' b1 : Bo} {d d' d1 : Dst}
theorem P2.carry (h : P2 w g q p lb r c b d b' d' V) (hb : Below V.heap.size V V') : P2 w g q p lb r c b d b' d' V' := ⟨h.bb.carry hb, h.bt.carry hb, h.dk.carry hb, h.rf.carry hb, h.bl.trans (hb.mono h.bl.size), h.hg, h.hq, h.hp, h.hl⟩
theorem P2.drew (h : P2 w g q p lb r c b d b' d' V) : P2 w g q p lb r c b d b' d' V.drew := h.carry (Below.refl _ _).drew
theorem P2.ne (h : P2 w g q p lb r c b d b' d' V) : (g ≠ p ∧ g ≠ q) ∧ (lb ≠ p ∧ lb ≠ q) ∧ r ≠ p ∧ r ≠ q := by
  obtain ⟨cur, h1⟩ := h.rf.lk
  obtain ⟨_, cur2, h2⟩ := h.rf.rb
  have a1 := h.bb
  have a2 := h.bt
  have a3 := h.dk.obj
  unfold BB at a1
  unfold Bt at a2
  exact ⟨⟨ne_ty a1 a3 (by decide), ne_ty a1 a2 (by decide)⟩, ⟨ne_ty h1 a3 (by decide), ne_ty h1 a2 (by decide)⟩, ne_ty h2 a3 (by decide), ne_ty h2 a2 (by decide)⟩
theorem P2.tq (h : P2 w g q p lb r c b d b' d' V) (hB : Bt V' q (some ⟨p, 0, none⟩) b1) (hD : Dk V' p d1) (ht : Tq p q V V') : P2 w g q p lb r c b1 d1 b' d' V' := by
  obtain ⟨⟨n1, n2⟩, ⟨n3, n4⟩, n5, n6⟩ := h.ne
  exact ⟨(ht.block _ (lt_at h.bb) n1 n2).trans h.bb, hB, hD, h.rf.same (ht.block _ h.rf.lt.1 n3 n4) (ht.block _ h.rf.lt.2 n5 n6), h.bl.trans (ht.below h.hp h.hq h.bl.size), h.hg, h.hq, h.hp, h.hl⟩
theorem P2.tp (h : P2 w g q p lb r c b d b' d' V) (hD : Dk V' p d1) (ht : Tp p V V') : P2 w g q p lb r c b d1 b' d' V' := h.tq (h.bt.tp h.dk ht) hD (Tq.tp _ ht)
theorem P2.t3 (h : P2 w g q p lb r c b d b' d' V) (hB : BB V' g q p lb b1) (hD : RfD V' lb 0 w.heap.size r c d1) (ht : T3 g lb r V V') : P2 w g q p lb r c b d b1 d1 V' := by
  obtain ⟨⟨n1, n2⟩, ⟨n3, n4⟩, n5, n6⟩ := h.ne
  exact ⟨hB, (ht.block _ (lt_at h.bt) (Ne.symm n2) (Ne.symm n4) (Ne.symm n6)).trans h.bt, ⟨(ht.block _ h.dk.lt (Ne.symm n1) (Ne.symm n3) (Ne.symm n5)).trans h.dk.obj, h.dk.len, h.dk.byt⟩, hD, h.bl.trans (ht.below h.hg h.hl h.rf.rb.1 h.bl.size), h.hg, h.hq, h.hp, h.hl⟩
theorem P2.tf (h : P2 w g q p lb r c b d b' d' V) (hD : RfD V' lb 0 w.heap.size r c d1) (ht : Tf lb 0 r V V') : P2 w g q p lb r c b d b' d1 V' := h.t3 (h.bb.tf h.rf ht) hD (T3.tf _ ht)
theorem field_bo (W : World) (B : Nat) : (Instr.fieldAt 77 (.pointer (some ⟨B, 0, none⟩)) 0).run Try.prog W = .ok (.pointer (some ⟨B, 0, none⟩)) W ∧ (Instr.fieldAt 77 (.pointer (some ⟨B, 0, none⟩)) 1).run Try.prog W = .ok (.pointer (some ⟨B, 1, none⟩)) W ∧ (Instr.fieldAt 77 (.pointer (some ⟨B, 0, none⟩)) 2).run Try.prog W = .ok (.pointer (some ⟨B, 2, none⟩)) W ∧ (Instr.fieldAt 77 (.pointer (some ⟨B, 0, none⟩)) 3).run Try.prog W = .ok (.pointer (some ⟨B, 8, none⟩)) W := by
  refine ⟨?_, ?_, ?_, ?_⟩ <;> go_simp
theorem load_b0 (h : BB V g q p lb b) : (Instr.loadAt 28 (.pointer (some ⟨g, 0, none⟩))).run Try.prog V = .ok (.pointer (some ⟨q, 0, none⟩)) V := by
  have c := h.cs.1
  go_simp
theorem load_b1 (h : BB V g q p lb b) : (Instr.loadAt 26 (.pointer (some ⟨g, 1, none⟩))).run Try.prog V = .ok (.pointer (some ⟨p, 0, none⟩)) V := by
  have c := h.cs.2.1
  go_simp
theorem load_b8 (h : BB V g q p lb b) : (Instr.loadAt 74 (.pointer (some ⟨g, 8, none⟩))).run Try.prog V = .ok (.pointer (some ⟨lb, 0, none⟩)) V := by
  have c := h.cs.2.2.2.2.2.2.2.2
  go_simp
theorem load_bK (h : BB V g q p lb b) : (Instr.loadAt 36 (.pointer (some ⟨g, 2, none⟩))).run Try.prog V = .ok (rV b.r) V := by
  obtain ⟨_, _, c2, c3, c4, _⟩ := h.cs
  unfold rV
  go_simp
theorem eqR (x y : Operand) (r : Rec) (w : World) : binRun Try.prog .eql 36 x y (rV r) (rV r) w = .ok (.bool true) w := by
  unfold rV binRun
  go_simp
theorem eqK_t {P : Program} {t : TypeId} {x y : Operand} {w : World} {a : Int} : binRun P .eql t x y (.int .i64 a) (.int .i64 a) w = .ok (.bool true) w := by simp [binRun, go_sem]
set_option maxHeartbeats 8000000 in
set_option maxRecDepth 100000 in
theorem looks_any (h : P2 w g q p lb r c b d b d' V) : Calls Try.prog 35 #[.pointer (some ⟨g, 0, none⟩)] V fun e w' => e = .returned (.bool true) ∧ Below V.heap.size V w' := by
  have hmx : Try.prog.follows .mixedOrders = true := by kernel_rfl
  go_enter Try.func35, Try.ntmps35
  go_wp2
  rename_i hK
  refine wp_region_any hmx ?_
  refine wpAny_pure (fun i__ => ([(.pointer (some ⟨g, 0, none⟩)), (.pointer (some ⟨g, 0, none⟩)), (.pointer (some ⟨g, 0, none⟩)), (.pointer (some ⟨q, 0, none⟩)), (.int .i64 b.r.li), (.pointer (some ⟨g, 0, none⟩)), (.pointer (some ⟨g, 0, none⟩)), (.pointer (some ⟨g, 2, none⟩)), (.pointer (some ⟨g, 5, none⟩)), (.int .i64 b.r.li), (.bool true), (.bool true), (.pointer (some ⟨g, 0, none⟩)), (.pointer (some ⟨g, 0, none⟩)), (.pointer (some ⟨g, 0, none⟩)), (.pointer (some ⟨q, 0, none⟩)), (.int .i64 b.ro), (.pointer (some ⟨g, 0, none⟩)), (.pointer (some ⟨g, 0, none⟩)), (.pointer (some ⟨g, 2, none⟩)), (.pointer (some ⟨g, 6, none⟩)), (.int .i64 b.ro), (.bool true), (.bool true), (.bool true), (.pointer (some ⟨g, 0, none⟩)), (.pointer (some ⟨g, 0, none⟩)), (.pointer (some ⟨g, 0, none⟩)), (.pointer (some ⟨q, 0, none⟩)), (.int .i64 b.ta), (.pointer (some ⟨g, 0, none⟩)), (.pointer (some ⟨g, 0, none⟩)), (.pointer (some ⟨g, 2, none⟩)), (.pointer (some ⟨g, 7, none⟩)), (.int .i64 b.ta), (.bool true), (.bool true), (.bool true), (.pointer (some ⟨g, 0, none⟩)), (.pointer (some ⟨g, 0, none⟩)), (.pointer (some ⟨g, 0, none⟩)), (.pointer (some ⟨q, 0, none⟩)), (rV b.r), (.pointer (some ⟨g, 0, none⟩)), (.pointer (some ⟨g, 0, none⟩)), (.pointer (some ⟨g, 2, none⟩)), (.pointer (some ⟨g, 2, none⟩)), (rV b.r), (.bool true), (.bool true), (.bool true)] : List Value).getD i__ undef) (fun Y => P2 w g q p lb r c b d b d' Y ∧ Below V.heap.size V Y) (by kernel_rfl) ⟨h.drew, (Below.refl _ _).drew⟩ ?_ ?_
  · refine (stepsFrom_cons ?_ (stepsFrom_cons ?_ (stepsFrom_cons ?_ (stepsFrom_cons ?_ (stepsFrom_cons ?_ (stepsFrom_cons ?_ (stepsFrom_cons ?_ (stepsFrom_cons ?_ (stepsFrom_cons ?_ (stepsFrom_cons ?_ (stepsFrom_cons ?_ (stepsFrom_cons ?_ (stepsFrom_cons ?_ (stepsFrom_cons ?_ (stepsFrom_cons ?_ (stepsFrom_cons ?_ (stepsFrom_cons ?_ (stepsFrom_cons ?_ (stepsFrom_cons ?_ (stepsFrom_cons ?_ (stepsFrom_cons ?_ (stepsFrom_cons ?_ (stepsFrom_cons ?_ (stepsFrom_cons ?_ (stepsFrom_cons ?_ (stepsFrom_cons ?_ (stepsFrom_cons ?_ (stepsFrom_cons ?_ (stepsFrom_cons ?_ (stepsFrom_cons ?_ (stepsFrom_cons ?_ (stepsFrom_cons ?_ (stepsFrom_cons ?_ (stepsFrom_cons ?_ (stepsFrom_cons ?_ (stepsFrom_cons ?_ (stepsFrom_cons ?_ (stepsFrom_cons ?_ (stepsFrom_cons ?_ (stepsFrom_cons ?_ (stepsFrom_cons ?_ (stepsFrom_cons ?_ (stepsFrom_cons ?_ (stepsFrom_cons ?_ (stepsFrom_cons ?_ (stepsFrom_cons ?_ (stepsFrom_cons ?_ (stepsFrom_cons ?_ (stepsFrom_cons ?_ (stepsFrom_cons ?_ (stepsFrom_cons ?_ trivial)))))))))))))))))))))))))))))))))))))))))))))))))))
    · exact step_move rfl trivial _ rfl (by kernel_rfl)
    · exact step_nilCheck rfl trivial _ _ _ rfl rfl rfl
    · exact step_fieldAddr rfl trivial _ _ _ _ rfl rfl (fun v hw => (field_bo v _).1)
    · exact step_load rfl trivial _ _ _ rfl rfl (fun v hw => load_b0 hw.1.bb)
    · exact step_call rfl trivial 18 _ _ [(.pointer (some ⟨q, 0, none⟩))] rfl (by kernel_rfl) (enters_of Try.func18 (by kernel_rfl) rfl) (fun v hw => (life_any hw.1.bt).mono (by rintro e w' ⟨rfl, hb⟩; exact ⟨rfl, hw.1.carry hb, bel2 hw.2 hb⟩))
    · exact step_move rfl trivial _ rfl (by kernel_rfl)
    · exact step_nilCheck rfl trivial _ _ _ rfl rfl rfl
    · exact step_fieldAddr rfl trivial _ _ _ _ rfl rfl (fun v hw => (field_bo v _).2.2.1)
    · exact step_fieldAddr rfl trivial _ _ _ _ rfl rfl (fun v hw => (field_rb v _ _).2.1)
    · exact step_load rfl trivial _ _ _ rfl rfl (fun v hw => load_i64 hw.1.bb.cs.2.2.2.2.2.1)
    · exact step_binOp rfl trivial _ _ _ _ _ _ _ rfl rfl rfl (fun v hw => eqK_t)
    · exact step_move rfl trivial _ rfl (by kernel_rfl)
    · exact step_move rfl (by exact ⟨_, rfl, by kernel_rfl⟩) _ rfl (by kernel_rfl)
    · exact step_nilCheck rfl (by exact ⟨_, rfl, by kernel_rfl⟩) _ _ _ rfl rfl rfl
    · exact step_fieldAddr rfl (by exact ⟨_, rfl, by kernel_rfl⟩) _ _ _ _ rfl rfl (fun v hw => (field_bo v _).1)
    · exact step_load rfl (by exact ⟨_, rfl, by kernel_rfl⟩) _ _ _ rfl rfl (fun v hw => load_b0 hw.1.bb)
    · exact step_call rfl (by exact ⟨_, rfl, by kernel_rfl⟩) 39 _ _ [(.pointer (some ⟨q, 0, none⟩))] rfl (by kernel_rfl) (enters_of Try.func39 (by kernel_rfl) rfl) (fun v hw => (bround_any hw.1.bt).mono (by rintro e w' ⟨rfl, rfl⟩; exact ⟨rfl, hw⟩))
    · exact step_move rfl (by exact ⟨_, rfl, by kernel_rfl⟩) _ rfl (by kernel_rfl)
    · exact step_nilCheck rfl (by exact ⟨_, rfl, by kernel_rfl⟩) _ _ _ rfl rfl rfl
    · exact step_fieldAddr rfl (by exact ⟨_, rfl, by kernel_rfl⟩) _ _ _ _ rfl rfl (fun v hw => (field_bo v _).2.2.1)
    · exact step_fieldAddr rfl (by exact ⟨_, rfl, by kernel_rfl⟩) _ _ _ _ rfl rfl (fun v hw => (field_rb v _ _).2.2.1)
    · exact step_load rfl (by exact ⟨_, rfl, by kernel_rfl⟩) _ _ _ rfl rfl (fun v hw => load_i64 hw.1.bb.cs.2.2.2.2.2.2.1)
    · exact step_binOp rfl (by exact ⟨_, rfl, by kernel_rfl⟩) _ _ _ _ _ _ _ rfl rfl rfl (fun v hw => eqK_t)
    · exact step_pick rfl trivial _ _ _ true rfl (by kernel_rfl) (by kernel_rfl)
    · exact step_move rfl trivial _ rfl (by kernel_rfl)
    · exact step_move rfl (by exact ⟨_, rfl, by kernel_rfl⟩) _ rfl (by kernel_rfl)
    · exact step_nilCheck rfl (by exact ⟨_, rfl, by kernel_rfl⟩) _ _ _ rfl rfl rfl
    · exact step_fieldAddr rfl (by exact ⟨_, rfl, by kernel_rfl⟩) _ _ _ _ rfl rfl (fun v hw => (field_bo v _).1)
    · exact step_load rfl (by exact ⟨_, rfl, by kernel_rfl⟩) _ _ _ rfl rfl (fun v hw => load_b0 hw.1.bb)
    · exact step_call rfl (by exact ⟨_, rfl, by kernel_rfl⟩) 16 _ _ [(.pointer (some ⟨q, 0, none⟩))] rfl (by kernel_rfl) (enters_of Try.func16 (by kernel_rfl) rfl) (fun v hw => (btag_any hw.1.bt).mono (by rintro e w' ⟨rfl, rfl⟩; exact ⟨rfl, hw⟩))
    · exact step_move rfl (by exact ⟨_, rfl, by kernel_rfl⟩) _ rfl (by kernel_rfl)
    · exact step_nilCheck rfl (by exact ⟨_, rfl, by kernel_rfl⟩) _ _ _ rfl rfl rfl
    · exact step_fieldAddr rfl (by exact ⟨_, rfl, by kernel_rfl⟩) _ _ _ _ rfl rfl (fun v hw => (field_bo v _).2.2.1)
    · exact step_fieldAddr rfl (by exact ⟨_, rfl, by kernel_rfl⟩) _ _ _ _ rfl rfl (fun v hw => (field_rb v _ _).2.2.2)
    · exact step_load rfl (by exact ⟨_, rfl, by kernel_rfl⟩) _ _ _ rfl rfl (fun v hw => load_i64 hw.1.bb.cs.2.2.2.2.2.2.2.1)
    · exact step_binOp rfl (by exact ⟨_, rfl, by kernel_rfl⟩) _ _ _ _ _ _ _ rfl rfl rfl (fun v hw => eqK_t)
    · exact step_pick rfl trivial _ _ _ true rfl (by kernel_rfl) (by kernel_rfl)
    · exact step_move rfl trivial _ rfl (by kernel_rfl)
    · exact step_move rfl (by exact ⟨_, rfl, by kernel_rfl⟩) _ rfl (by kernel_rfl)
    · exact step_nilCheck rfl (by exact ⟨_, rfl, by kernel_rfl⟩) _ _ _ rfl rfl rfl
    · exact step_fieldAddr rfl (by exact ⟨_, rfl, by kernel_rfl⟩) _ _ _ _ rfl rfl (fun v hw => (field_bo v _).1)
    · exact step_load rfl (by exact ⟨_, rfl, by kernel_rfl⟩) _ _ _ rfl rfl (fun v hw => load_b0 hw.1.bb)
    · exact step_call rfl (by exact ⟨_, rfl, by kernel_rfl⟩) 15 _ _ [(.pointer (some ⟨q, 0, none⟩))] rfl (by kernel_rfl) (enters_of Try.func15 (by kernel_rfl) rfl) (fun v hw => (durable_any hw.1.bt).mono (by rintro e w' ⟨rfl, hb⟩; exact ⟨rfl, hw.1.carry hb, bel2 hw.2 hb⟩))
    · exact step_move rfl (by exact ⟨_, rfl, by kernel_rfl⟩) _ rfl (by kernel_rfl)
    · exact step_nilCheck rfl (by exact ⟨_, rfl, by kernel_rfl⟩) _ _ _ rfl rfl rfl
    · exact step_fieldAddr rfl (by exact ⟨_, rfl, by kernel_rfl⟩) _ _ _ _ rfl rfl (fun v hw => (field_bo v _).2.2.1)
    · exact step_fieldAddr rfl (by exact ⟨_, rfl, by kernel_rfl⟩) _ _ _ _ rfl rfl (fun v hw => (field_rb v _ _).1)
    · exact step_load rfl (by exact ⟨_, rfl, by kernel_rfl⟩) _ _ _ rfl rfl (fun v hw => load_bK hw.1.bb)
    · exact step_binOp rfl (by exact ⟨_, rfl, by kernel_rfl⟩) _ _ _ _ _ _ _ rfl rfl rfl (fun v hw => eqR _ _ _ _)
    · exact step_pick rfl trivial _ _ _ true rfl (by kernel_rfl) (by kernel_rfl)
    · exact step_assign rfl trivial _ rfl (by kernel_rfl) (fun _ h => h)
  intro W hW
  first | refine hK _ _ ?_ | refine (‹∀ (a : Act) (w : World), Code.wp Try.prog _ _ a w → _›) _ _ ?_
  simp only [finL, List.getD_cons_zero, List.getD_cons_succ, Nat.zero_add, Nat.reduceAdd, List.setIfInBounds_toArray, List.set_cons_zero, List.set_cons_succ]
  clear hK
  go_wp2
  go_ret
  exact ⟨rfl, hW.2⟩
end
end Go.Proofs.Ytjleggnkacmbbaa
