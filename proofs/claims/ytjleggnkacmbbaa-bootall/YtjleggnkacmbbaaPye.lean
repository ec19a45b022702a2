/- The step of the play: what it answers. -/
import Derived.Test.YtjleggnkacmbbaaPyd
import Derived.Test.YtjleggnkacmbbaaOpg
namespace Go.Proofs.Ytjleggnkacmbbaa
open Go.RowKit Go.Shelf Go.Lib

/-- So many Nexts, one behind the other. -/
def nxI (d : Dst) (b : Bo) : Nat → Dst × Bo
  | 0 => (d, b)
  | n + 1 => ((dNx (nxI d b n).1 (nxI d b n).2).d, (dNx (nxI d b n).1 (nxI d b n).2).b)
/-- How many times. -/
def nTo (a : Int) : Nat := if a < 100 then a.toNat else 100
/-- What a step leaves. -/
def dSt (o : Ob) (d : Dst) (b : Bo) : Dst × Bo :=
  if o.k = 1 then nxI d b (nTo o.a) else if o.k = 2 then ((dRa d b o.a).d, (dRa d b o.a).b) else if o.k = 3 then ((dOp d).d, if (dOp d).e = 0 then (dOp d).b else b) else if o.k = 4 then (dFuse d o.a, b) else if o.k = 5 then ({ d with off := true }, b) else if o.k = 6 then ({ d with off := false }, b) else (d, b)
/-- What holds all the while. -/
structure Iv (d : Dst) (b : Bo) (M : Int) : Prop where
  fz : Fz d
  ok : OkB b
  w0 : 0 ≤ d.writes
  wm : d.writes ≤ M
theorem dSv_fz {d : Dst} (hf : Fz d) (x : Rec) : Fz (dSv d x).2 := by
  unfold dSv
  split
  · exact hf
  · split
    · exact hf
    · split
      · exact hf
      · exact dW2_fz hf _ _
theorem dSv_wr {d : Dst} (x : Rec) : d.writes ≤ (dSv d x).2.writes ∧ (dSv d x).2.writes ≤ d.writes + 2 := by
  unfold dSv
  split
  · exact ⟨by show d.writes ≤ d.writes; omega, by show d.writes ≤ d.writes + 2; omega⟩
  · split
    · exact ⟨by show d.writes ≤ d.writes; omega, by show d.writes ≤ d.writes + 2; omega⟩
    · split
      · exact ⟨by show d.writes ≤ d.writes; omega, by show d.writes ≤ d.writes + 2; omega⟩
      · exact dW2_wr _ _
section
variable {d : Dst} {b : Bo} {M : Int}
theorem Iv.up {N : Int} (h : Iv d b M) (hn : M ≤ N) : Iv d b N := ⟨h.fz, h.ok, h.w0, by have := h.wm; omega⟩
theorem Iv.next (h : Iv d b M) : Iv (dNx d b).d (dNx d b).b (M + 2) := by
  have hw := h.w0
  have hm := h.wm
  have hk := h.ok
  obtain ⟨k1, k2, k3, k4, k5⟩ := h.ok
  have s1 := dSv_fz h.fz (rNx b)
  have s2 := dSv_wr (d := d) (rNx b)
  unfold dNx
  split
  · exact ⟨h.fz, h.ok, hw, by dsimp only; omega⟩
  split
  · exact ⟨h.fz, h.ok, hw, by dsimp only; omega⟩
  split
  · have hb := bR_ge (x := b.ro) (by omega)
    split
    · exact ⟨s1, ⟨k1, ⟨by show 0 ≤ bR b.ro; omega, hb.2⟩, k3, ⟨by dsimp only; omega, by dsimp only; omega⟩, k5⟩, by dsimp only; omega, by dsimp only; omega⟩
    · exact ⟨s1, hk, by dsimp only; omega, by dsimp only; omega⟩
  · exact ⟨h.fz, ⟨k1, k2, k3, ⟨by dsimp only; omega, by dsimp only; omega⟩, k5⟩, hw, by dsimp only; omega⟩
theorem Iv.nexts (h : Iv d b M) : ∀ n, Iv (nxI d b n).1 (nxI d b n).2 (M + 2 * (n : Int))
  | 0 => h.up (by omega)
  | n + 1 => (Iv.next (h.nexts n)).up (by omega)
theorem Iv.raise (h : Iv d b M) (t : Int) : Iv (dRa d b t).d (dRa d b t).b (M + 2) := by
  have hw := h.w0
  have hm := h.wm
  have hk := h.ok
  obtain ⟨k1, k2, k3, k4, k5⟩ := h.ok
  have s1 := dSv_fz h.fz (rRa b t)
  have s2 := dSv_wr (d := d) (rRa b t)
  unfold dRa
  split
  · exact ⟨h.fz, h.ok, hw, by dsimp only; omega⟩
  split
  · exact ⟨h.fz, h.ok, hw, by dsimp only; omega⟩
  split
  · exact ⟨h.fz, h.ok, hw, by dsimp only; omega⟩
  split
  · exact ⟨h.fz, h.ok, hw, by dsimp only; omega⟩
  split
  · have hb := bT_ge (x := t - 1) (by omega)
    split
    · exact ⟨s1, ⟨k1, k2, ⟨by show 0 ≤ bT (t - 1); omega, hb.2⟩, k4, by dsimp only; omega, by dsimp only; omega⟩, by dsimp only; omega, by dsimp only; omega⟩
    · exact ⟨s1, hk, by dsimp only; omega, by dsimp only; omega⟩
  · exact ⟨h.fz, ⟨k1, k2, k3, k4, by dsimp only; omega, by dsimp only; omega⟩, hw, by dsimp only; omega⟩
theorem Iv.open (hf : Fz d) (hw : 0 ≤ d.writes) (hm : d.writes ≤ M) : Fz (dOp d).d ∧ 0 ≤ (dOp d).d.writes ∧ (dOp d).d.writes ≤ M + 2 ∧ ((dOp d).e = 0 → OkB (dOp d).b) := by
  have s1 := dSv_fz hf (nxL (nwT d).r)
  have s2 := dSv_wr (d := d) (nxL (nwT d).r)
  have hr := nwT_r d
  unfold dOp
  split
  · exact ⟨hf, hw, by dsimp only; omega, fun e => absurd (show (100 : Int) = 0 from e) (by decide)⟩
  split
  · exact ⟨hf, hw, by dsimp only; omega, fun e => absurd (show (120 : Int) = 0 from e) (by decide)⟩
  · rename_i hl
    have h1 := bR_le (x := (nwT d).r.ro) (by omega)
    have h2 := bT_le (x := (nwT d).r.ta) (by omega)
    refine ⟨s1, by dsimp only; omega, by dsimp only; omega, fun _ => ⟨⟨?_, ?_⟩, ⟨?_, h1.2⟩, ⟨?_, h2.2⟩, ⟨hr.2.1.1, hr.2.1.2⟩, hr.2.2.1, hr.2.2.2⟩⟩
    · show 0 ≤ (nwT d).r.li + 1
      omega
    · show (nwT d).r.li + 1 ≤ _
      omega
    · show 0 ≤ bR (nwT d).r.ro
      omega
    · show 0 ≤ bT (nwT d).r.ta
      omega
theorem nTo_le (a : Int) : nTo a ≤ 100 := by
  unfold nTo
  split <;> omega
theorem Iv.st (h : Iv d b M) (o : Ob) (ho : o.a ≤ 9223372036854775807) : Iv (dSt o d b).1 (dSt o d b).2 (M + 200) := by
  unfold dSt
  split
  · have := nTo_le o.a
    exact (h.nexts _).up (by omega)
  split
  · exact (h.raise _).up (by omega)
  split
  · obtain ⟨o1, o2, o3, o4⟩ := Iv.open (M := M) h.fz h.w0 h.wm
    refine ⟨o1, ?_, o2, by dsimp only; omega⟩
    dsimp only
    split
    · rename_i he
      exact o4 he
    · exact h.ok
  split
  · exact ⟨dFuse_fz _ _ ho, h.ok, h.w0, by have := h.wm; show d.writes ≤ _; omega⟩
  split
  · exact ⟨h.fz, h.ok, h.w0, by have := h.wm; show d.writes ≤ _; omega⟩
  split
  · exact ⟨h.fz, h.ok, h.w0, by have := h.wm; show d.writes ≤ _; omega⟩
  · exact h.up (by omega)
end
theorem stepG_ofC {G : Type} {P : Program} {md : Region.Mode} {ops : Array Oper} {Q : Exit → Act → World → Prop} {X0 : Array Value} {val : G → Nat → Value} {J : G → (Nat → Bool) → World → Prop} {i : Nat} {o : Oper}
    (h : ∀ g d, d i = false → (∀ j, bindsOn md o j = true → d j = true) → (∀ j oj, ops[j]? = some oj → d j = true → ∀ k, bindsOn md oj k = true → d k = true) → StepAt P md ops Q X0 (val g) (J g d) (J g (fun j => if j = i then true else d j)) i o) : StepG P md ops Q X0 val J i o := by
  intro g d a w hJ hun hdep hcl hS
  exact wpOp_mono (fun a' w' hq => ⟨g, fun _ _ => rfl, hq.1, hq.2⟩) (h g d hun hdep hcl a w hJ hS)
/-- The step in its box. -/
def OX (V : World) (x : Nat) (k a : Int) : Prop := V.heap[x]? = some (.cells #[.int .i64 k, .int .i64 a] 80 (0, 0))
/-- Both, and the step in its box. -/
def JX (w : World) (x : Nat) (k a : Int) (g q p lb r c : Nat) (b : Bo) (d : Dst) (b' : Bo) (d' : Dst) (V : World) : Prop := P2 w g q p lb r c b d b' d' V ∧ OX V x k a
section
variable {w V V' : World} {x g q p lb r c : Nat} {k a : Int} {b b' b1 : Bo} {d d' d1 : Dst}
theorem JX.carry (h : JX w x k a g q p lb r c b d b' d' V) (hb : Below V.heap.size V V') : JX w x k a g q p lb r c b d b' d' V' := ⟨h.1.carry hb, (hb.block _ (lt_at h.2)).trans h.2⟩
theorem JX.drew (h : JX w x k a g q p lb r c b d b' d' V) : JX w x k a g q p lb r c b d b' d' V.drew := h.carry (Below.refl _ _).drew
theorem JX.ne (h : JX w x k a g q p lb r c b d b' d' V) : (x ≠ p ∧ x ≠ q) ∧ x ≠ g ∧ x ≠ lb ∧ x ≠ r := by
  obtain ⟨cur, h1⟩ := h.1.rf.lk
  obtain ⟨_, cur2, h2⟩ := h.1.rf.rb
  have a1 := h.1.bb
  have a2 := h.1.bt
  have a3 := h.1.dk.obj
  have a4 := h.2
  unfold BB at a1
  unfold Bt at a2
  unfold OX at a4
  exact ⟨⟨ne_ty a4 a3 (by decide), ne_ty a4 a2 (by decide)⟩, ne_ty a4 a1 (by decide), ne_ty a4 h1 (by decide), ne_ty a4 h2 (by decide)⟩
theorem JX.tq (h : JX w x k a g q p lb r c b d b' d' V) (hB : Bt V' q (some ⟨p, 0, none⟩) b1) (hD : Dk V' p d1) (ht : Tq p q V V') : JX w x k a g q p lb r c b1 d1 b' d' V' := ⟨h.1.tq hB hD ht, (ht.block _ (lt_at h.2) h.ne.1.1 h.ne.1.2).trans h.2⟩
theorem JX.tp (h : JX w x k a g q p lb r c b d b' d' V) (hD : Dk V' p d1) (ht : Tp p V V') : JX w x k a g q p lb r c b d1 b' d' V' := ⟨h.1.tp hD ht, (ht.block _ (lt_at h.2) h.ne.1.1).trans h.2⟩
theorem JX.t3 (h : JX w x k a g q p lb r c b d b' d' V) (hB : BB V' g q p lb b1) (hD : RfD V' lb 0 w.heap.size r c d1) (ht : T3 g lb r V V') : JX w x k a g q p lb r c b d b1 d1 V' := ⟨h.1.t3 hB hD ht, (ht.block _ (lt_at h.2) h.ne.2.1 h.ne.2.2.1 h.ne.2.2.2).trans h.2⟩
theorem JX.tf (h : JX w x k a g q p lb r c b d b' d' V) (hD : RfD V' lb 0 w.heap.size r c d1) (ht : Tf lb 0 r V V') : JX w x k a g q p lb r c b d b' d1 V' := ⟨h.1.tf hD ht, (ht.block _ (lt_at h.2) h.ne.2.2.1 h.ne.2.2.2).trans h.2⟩
theorem field_op1 (W : World) (B : Nat) : (Instr.fieldAt 80 (.pointer (some ⟨B, 0, none⟩)) 1).run Try.prog W = .ok (.pointer (some ⟨B, 1, none⟩)) W := by go_simp
set_option maxHeartbeats 16000000 in
set_option maxRecDepth 100000 in
theorem step_4 (h : P2 w g q p lb r c b d b d V) : Calls Try.prog 34 #[.pointer (some ⟨g, 0, none⟩), .agg #[.int .i64 4, .int .i64 a]] V fun e w' => e = .returned (.bool true) ∧ P2 w g q p lb r c (b) (dFuse d a) (b) (dFuse d a) w' := by
  have hmx : Try.prog.follows .mixedOrders = true := by kernel_rfl
  obtain ⟨w1, hw1⟩ : ∃ w1, V.alloc (.cells #[.int .i64 4, .int .i64 a] 80) = w1 := ⟨_, rfl⟩
  have hb1 : Below V.heap.size V w1 := by rw [← hw1]; exact al1' _ _
  have hX : JX w V.heap.size 4 a g q p lb r c b d b d w1 := ⟨h.carry hb1, by rw [← hw1]; exact new_at rfl⟩
  have o0 := cell_at hX.2 0
  have o1 := cell_at hX.2 1
  simp at o0 o1
  obtain ⟨q0, q1, q2, q3, q4, q5, q6, q7, q8⟩ := hX.1.bb.cs
  go_enter Try.func34, Try.ntmps34
  go_wp2
  rename_i hK
  refine wp_region_any hmx ?_
  refine wpAny_last 6 (fun i__ => ([(.pointer (some ⟨g, 0, none⟩)), (.pointer (some ⟨g, 0, none⟩)), (.pointer (some ⟨g, 1, none⟩)), (.pointer (some ⟨p, 0, none⟩)), (.pointer (some ⟨V.heap.size, 1, none⟩)), (.int .i64 a), (.tuple #[])] : List Value).getD i__ undef) (JX w V.heap.size 4 a g q p lb r c b d b d) (JX w V.heap.size 4 a g q p lb r c b (dFuse d a) b d) rfl (by kernel_rfl) (by kernel_rfl) (hX.drew) ?_ ?_  ?_
  · refine (stepsFrom_cons ?_ (stepsFrom_cons ?_ (stepsFrom_cons ?_ (stepsFrom_cons ?_ (stepsFrom_cons ?_ (stepsFrom_cons ?_ trivial))))))
    · exact step_move rfl trivial _ rfl (by kernel_rfl)
    · exact step_nilCheck rfl trivial _ _ _ rfl rfl rfl
    · exact step_fieldAddr rfl trivial _ _ _ _ rfl rfl (fun v hw => (field_bo v _).2.1)
    · exact step_load rfl trivial _ _ _ rfl rfl (fun v hw => load_b1 hw.1.bb)
    · exact step_fieldAddr rfl trivial _ _ _ _ rfl rfl (fun v hw => field_op1 v _)
    · exact step_load rfl trivial _ _ _ rfl rfl (fun v hw => load_i64 (by rw [cell_at hw.2]; rfl))
  · intro o ho
    cases ho
    exact step_call rfl trivial 20 _ _ [(.pointer (some ⟨p, 0, none⟩)), (.int .i64 a)] rfl (by kernel_rfl) (enters_of Try.func20 (by kernel_rfl) rfl) (fun v hw => (fuse_any hw.1.dk a).mono (by rintro e w' ⟨rfl, h1, h2⟩; exact ⟨rfl, hw.tp h1 h2⟩))
  intro W hW
  first | refine hK _ _ ?_ | refine (‹∀ (a : Act) (w : World), Code.wp Try.prog _ _ a w → _›) _ _ ?_
  simp only [finL, List.getD_cons_zero, List.getD_cons_succ, Nat.zero_add, Nat.reduceAdd, List.setIfInBounds_toArray, List.set_cons_zero, List.set_cons_succ]
  have hX2 := hW
  clear hK hW hX q0 q1 q2 q3 q4 q5 q6 q7 q8 o0 o1
  go_wp2
  rename_i hK
  refine wp_region_any hmx ?_
  refine wpAny_last 6 (fun i__ => ([(.pointer (some ⟨g, 0, none⟩)), (.pointer (some ⟨g, 0, none⟩)), (.pointer (some ⟨g, 8, none⟩)), (.pointer (some ⟨lb, 0, none⟩)), (.pointer (some ⟨V.heap.size, 1, none⟩)), (.int .i64 a), (.tuple #[])] : List Value).getD i__ undef) (JX w V.heap.size 4 a g q p lb r c b (dFuse d a) b d) (JX w V.heap.size 4 a g q p lb r c b (dFuse d a) b (dFuse d a)) rfl (by kernel_rfl) (by kernel_rfl) (hX2.drew) ?_ ?_  ?_
  · refine (stepsFrom_cons ?_ (stepsFrom_cons ?_ (stepsFrom_cons ?_ (stepsFrom_cons ?_ (stepsFrom_cons ?_ (stepsFrom_cons ?_ trivial))))))
    · exact step_move rfl trivial _ rfl (by kernel_rfl)
    · exact step_nilCheck rfl trivial _ _ _ rfl rfl rfl
    · exact step_fieldAddr rfl trivial _ _ _ _ rfl rfl (fun v hw => (field_bo v _).2.2.2)
    · exact step_load rfl trivial _ _ _ rfl rfl (fun v hw => load_b8 hw.1.bb)
    · exact step_fieldAddr rfl trivial _ _ _ _ rfl rfl (fun v hw => field_op1 v _)
    · exact step_load rfl trivial _ _ _ rfl rfl (fun v hw => load_i64 (by rw [cell_at hw.2]; rfl))
  · intro o ho
    cases ho
    exact step_call rfl trivial 52 _ _ [(.pointer (some ⟨lb, 0, none⟩)), (.int .i64 a)] rfl (by kernel_rfl) (enters_of Try.func52 (by kernel_rfl) rfl) (fun v hw => (rset_any hw.1.rf a).mono (by rintro e w' ⟨rfl, h1, h2⟩; exact ⟨rfl, hw.tf h1 h2⟩))
  intro W hW
  first | refine hK _ _ ?_ | refine (‹∀ (a : Act) (w : World), Code.wp Try.prog _ _ a w → _›) _ _ ?_
  simp only [finL, List.getD_cons_zero, List.getD_cons_succ, Nat.zero_add, Nat.reduceAdd, List.setIfInBounds_toArray, List.set_cons_zero, List.set_cons_succ]
  clear hK
  go_wp2
  go_ret
  exact ⟨rfl, hW.1⟩
set_option maxHeartbeats 16000000 in
set_option maxRecDepth 100000 in
theorem step_5 (h : P2 w g q p lb r c b d b d V) : Calls Try.prog 34 #[.pointer (some ⟨g, 0, none⟩), .agg #[.int .i64 5, .int .i64 a]] V fun e w' => e = .returned (.bool true) ∧ P2 w g q p lb r c (b) ({ d with off := true }) (b) ({ d with off := true }) w' := by
  have hmx : Try.prog.follows .mixedOrders = true := by kernel_rfl
  obtain ⟨w1, hw1⟩ : ∃ w1, V.alloc (.cells #[.int .i64 5, .int .i64 a] 80) = w1 := ⟨_, rfl⟩
  have hb1 : Below V.heap.size V w1 := by rw [← hw1]; exact al1' _ _
  have hX : JX w V.heap.size 5 a g q p lb r c b d b d w1 := ⟨h.carry hb1, by rw [← hw1]; exact new_at rfl⟩
  have o0 := cell_at hX.2 0
  have o1 := cell_at hX.2 1
  simp at o0 o1
  obtain ⟨q0, q1, q2, q3, q4, q5, q6, q7, q8⟩ := hX.1.bb.cs
  have hcu := cut_any hX.1.dk
  go_enter Try.func34, Try.ntmps34
  go_wp2_with (go_at_call 53; (with_reducible refine hcu.mono ?_); rintro e v1 ⟨rfl, hd1, ht1⟩; have hX1 := hX.tp hd1 ht1; have c8 := hX1.1.bb.cs.2.2.2.2.2.2.2.2; have cf := hX1.1.rf.f; rw [Nat.zero_add] at cf; have zf := hX1.1.rf.zaw 1; have hs1 := hX1.1.rf.set1 true; have htf := Tf.set lb 0 r 1 v1 (.bool true) (by omega) (by omega); have hX2 := hX1.tf hs1 htf; obtain ⟨v2, hv2⟩ : ∃ v2, v1.setCell ⟨lb, 1, none⟩ (.bool true) = v2 := ⟨_, rfl⟩; rw [Nat.zero_add, hv2] at hX2)
  go_ret
  exact ⟨rfl, hX2.1⟩
set_option maxHeartbeats 16000000 in
set_option maxRecDepth 100000 in
theorem step_6 (h : P2 w g q p lb r c b d b d V) : Calls Try.prog 34 #[.pointer (some ⟨g, 0, none⟩), .agg #[.int .i64 6, .int .i64 a]] V fun e w' => e = .returned (.bool true) ∧ P2 w g q p lb r c (b) ({ d with off := false }) (b) ({ d with off := false }) w' := by
  have hmx : Try.prog.follows .mixedOrders = true := by kernel_rfl
  obtain ⟨w1, hw1⟩ : ∃ w1, V.alloc (.cells #[.int .i64 6, .int .i64 a] 80) = w1 := ⟨_, rfl⟩
  have hb1 : Below V.heap.size V w1 := by rw [← hw1]; exact al1' _ _
  have hX : JX w V.heap.size 6 a g q p lb r c b d b d w1 := ⟨h.carry hb1, by rw [← hw1]; exact new_at rfl⟩
  have o0 := cell_at hX.2 0
  have o1 := cell_at hX.2 1
  simp at o0 o1
  obtain ⟨q0, q1, q2, q3, q4, q5, q6, q7, q8⟩ := hX.1.bb.cs
  have hcu := restore_any hX.1.dk
  go_enter Try.func34, Try.ntmps34
  go_wp2_with (go_at_call 19; (with_reducible refine hcu.mono ?_); rintro e v1 ⟨rfl, hd1, ht1⟩; have hX1 := hX.tp hd1 ht1; have c8 := hX1.1.bb.cs.2.2.2.2.2.2.2.2; have cf := hX1.1.rf.f; rw [Nat.zero_add] at cf; have zf := hX1.1.rf.zaw 1; have hs1 := hX1.1.rf.set1 false; have htf := Tf.set lb 0 r 1 v1 (.bool false) (by omega) (by omega); have hX2 := hX1.tf hs1 htf; obtain ⟨v2, hv2⟩ : ∃ v2, v1.setCell ⟨lb, 1, none⟩ (.bool false) = v2 := ⟨_, rfl⟩; rw [Nat.zero_add, hv2] at hX2)
  go_ret
  exact ⟨rfl, hX2.1⟩
set_option maxHeartbeats 16000000 in
set_option maxRecDepth 100000 in
theorem step_7 (h : P2 w g q p lb r c b d b d V) : Calls Try.prog 34 #[.pointer (some ⟨g, 0, none⟩), .agg #[.int .i64 7, .int .i64 a]] V fun e w' => e = .returned (.bool true) ∧ P2 w g q p lb r c (b) (d) (b) (d) w' := by
  have hmx : Try.prog.follows .mixedOrders = true := by kernel_rfl
  obtain ⟨w1, hw1⟩ : ∃ w1, V.alloc (.cells #[.int .i64 7, .int .i64 a] 80) = w1 := ⟨_, rfl⟩
  have hb1 : Below V.heap.size V w1 := by rw [← hw1]; exact al1' _ _
  have hX : JX w V.heap.size 7 a g q p lb r c b d b d w1 := ⟨h.carry hb1, by rw [← hw1]; exact new_at rfl⟩
  have o0 := cell_at hX.2 0
  have o1 := cell_at hX.2 1
  simp at o0 o1
  obtain ⟨q0, q1, q2, q3, q4, q5, q6, q7, q8⟩ := hX.1.bb.cs
  have hlo := looks_any hX.1
  go_enter Try.func34, Try.ntmps34
  go_wp2_with (go_at_call 35; (with_reducible refine hlo.mono ?_); rintro e v1 ⟨rfl, hb2⟩)
  go_ret
  exact ⟨rfl, (hX.carry hb2).1⟩
set_option maxHeartbeats 16000000 in
set_option maxRecDepth 100000 in
theorem step_0 (h : P2 w g q p lb r c b d b d V) (h1 : ¬ k = 1) (h2 : ¬ k = 2) (h3 : ¬ k = 3) (h4 : ¬ k = 4) (h5 : ¬ k = 5) (h6 : ¬ k = 6) (h7 : ¬ k = 7) : Calls Try.prog 34 #[.pointer (some ⟨g, 0, none⟩), .agg #[.int .i64 k, .int .i64 a]] V fun e w' => e = .returned (.bool true) ∧ P2 w g q p lb r c (b) (d) (b) (d) w' := by
  have hmx : Try.prog.follows .mixedOrders = true := by kernel_rfl
  obtain ⟨w1, hw1⟩ : ∃ w1, V.alloc (.cells #[.int .i64 k, .int .i64 a] 80) = w1 := ⟨_, rfl⟩
  have hb1 : Below V.heap.size V w1 := by rw [← hw1]; exact al1' _ _
  have hX : JX w V.heap.size k a g q p lb r c b d b d w1 := ⟨h.carry hb1, by rw [← hw1]; exact new_at rfl⟩
  have o0 := cell_at hX.2 0
  have o1 := cell_at hX.2 1
  simp at o0 o1
  obtain ⟨q0, q1, q2, q3, q4, q5, q6, q7, q8⟩ := hX.1.bb.cs
  go_enter Try.func34, Try.ntmps34
  go_wp2
  go_ret
  exact ⟨rfl, hX.1⟩
end
end Go.Proofs.Ytjleggnkacmbbaa
