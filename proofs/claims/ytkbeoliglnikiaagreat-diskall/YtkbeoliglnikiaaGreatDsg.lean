/- One step of the play: Write. -/
import Derived.Test.YtkbeoliglnikiaaGreatDsf
namespace Go.Proofs.YtkbeoliglnikiaaGreat
open Go.RowKit Go.Shelf

/-- Bytes in a block of their own. -/
def LeB (W : World) (g : Nat) (l : List Nat) : Prop := W.heap[g]? = some (.cells (cB l).toArray 5 (0, 0))
theorem LeB.at {W : World} {g : Nat} {l : List Nat} (h : LeB W g l) : BAt W g 0 l := fun k x hk => by
  rw [Nat.zero_add, cell_at h, List.getElem?_toArray]
  exact cB_get hk
theorem LeB.carry {W V : World} {g : Nat} {l : List Nat} (h : LeB W g l) (hb : Below W.heap.size W V) : LeB V g l := (hb.block _ (lt_at h)).trans h
theorem LeB.rd {W : World} {g : Nat} {x : List Nat} (h : LeB W g (mk9 x)) : RdB W (some ⟨g, 0, none⟩) x := fun _ => ⟨g, 0, rfl, lt_at h, fun k y hy => h.at k y (mk9_old hy)⟩
theorem LeB.tp {W V : World} {g p : Nat} {l : List Nat} {d : Dst} (h : LeB W g l) (hd : Dk W p d) (ht : Tp p W V) : LeB V g l := (ht.block g (lt_at h) (fun e => by
  have h2 : W.heap[g]? = _ := h
  rw [e] at h2
  have := h2.symm.trans hd.obj
  simp only [Option.some.injEq, Obj.cells.injEq] at this
  exact absurd this.2.1 (by decide))).trans h
theorem LeB.tf {W V : World} {g lb o base r c : Nat} {l : List Nat} {d : Dst} (h : LeB W g l) (hr : RfD W lb o base r c d) (hn : g ≠ r) (ht : Tf lb o r W V) : LeB V g l := (ht.block g (lt_at h) (fun e => by
  have h2 : W.heap[g]? = _ := h
  rw [e] at h2
  obtain ⟨cur, hl⟩ := hr.lk
  have := h2.symm.trans hl
  simp only [Option.some.injEq, Obj.cells.injEq] at this
  exact absurd this.2.1 (by decide)) hn).trans h
theorem load_op_s {V : World} {B n c : Nat} {a : Option Addr} {k who x : Int} (h : OpB V B k who x (.slice a n c)) : (Instr.loadAt 22 (.pointer (some ⟨B, 3, none⟩))).run Tryz.prog V = .ok (.slice a n c) V := load_sl h.c3
section
variable {base lb off bb p r c : Nat} {d : Dst} {w w0 : World}
/-- A block of bytes that is neither one's turns. -/
theorem Sd.sg {σ τ : Sg} {W : World} (h : Sd σ base lb off bb p r c d W) (hn : NK τ base bb W) (hr : τ r) : Sd τ base lb off bb p r c d W := ⟨h.c0, h.rf, h.c5, h.dk, hn, h.bz, h.pb, h.lb0, hr⟩
theorem Sd.blk {σ : Sg} {g : Nat} {W V : World} {cur : Array Value} (h : Sd σ base lb off bb p r c d W) (hg : W.heap[g]? = some (.cells cur 5 (0, 0))) (hn : g ≠ r) (hs : W.heap.size ≤ V.heap.size) (hb : ∀ k, k < W.heap.size → k ≠ g → V.heap[k]? = W.heap[k]?) (hsg : σ g) : Sd σ base lb off bb p r c d V := by
  have ne : ∀ (q : Nat) (cc : Array Value) (t : TypeId) (z : Nat × Nat), W.heap[q]? = some (.cells cc t z) → t ≠ 5 → q ≠ g := fun q cc t z hq ht e => by
    rw [e] at hq
    have := hq.symm.trans hg
    simp only [Option.some.injEq, Obj.cells.injEq] at this
    exact ht this.2.1
  obtain ⟨cl, hl⟩ := h.rf.lk
  have hq := hb _ (lt_at hl) (ne _ _ _ _ hl (by decide))
  obtain ⟨_, cr, hcr⟩ := h.rf.rb
  refine ⟨(World.cell?_of_block (a := ⟨lb, _, none⟩) hq).trans h.c0, h.rf.carryB (fun cc hc => (hb _ (lt_at hc) (ne _ _ _ _ hc (by decide))).trans hc) ?_, (World.cell?_of_block (a := ⟨lb, _, none⟩) hq).trans h.c5, ⟨(hb _ h.dk.lt (ne _ _ _ _ h.dk.obj (by decide))).trans h.dk.obj, h.dk.len, h.dk.byt⟩, nk_tp h.nk hg (by decide) (by decide) (.inr hsg) hs hb, Nat.le_trans h.bz hs, h.pb, h.lb0, h.sr⟩
  refine ⟨h.rf.row.1, ?_⟩
  rcases h.rf.row.2 with ⟨e1, _⟩ | ⟨g1, cap, cc, e1, e2, e3, e4⟩
  · cases e1
  · cases e1
    exact .inr ⟨r, c, cc, rfl, e2, (hb _ (lt_at e3) (Ne.symm hn)).trans e3, e4⟩
theorem Ev.blk {g : Nat} {W V : World} (h : Ev base lb off p r w W) (hz : base ≤ w.heap.size) (hg : w.heap.size ≤ g) (hlb : lb ≠ g) (ho : V.os = W.os) (ht : V.tape = W.tape) (hp : V.output = W.output) (hs : W.heap.size ≤ V.heap.size) (hb : ∀ k, k < W.heap.size → k ≠ g → V.heap[k]? = W.heap[k]?) : Ev base lb off p r w V := by
  refine ⟨ho.trans h.os, ht.trans h.tape, hp.trans h.output, Nat.le_trans h.size hs, fun q cur t z hq h1 h2 h3 h4 h5 => ?_, fun k hk => (hb k (Nat.lt_of_lt_of_le hk (Nat.le_trans hz h.size)) (by omega)).trans (h.low k hk), fun cur hc => ?_⟩
  · have hW := h.block q cur t z hq h1 h2 h3 h4 h5
    have := lt_at hq
    exact (hb q (lt_at hW) (by omega)).trans hW
  · obtain ⟨c1, a1, a2, a3⟩ := h.lk cur hc
    exact ⟨c1, (hb lb (lt_at a1) hlb).trans a1, a2, a3⟩
set_option maxHeartbeats 4000000 in
set_option maxRecDepth 100000 in
theorem step_1 {σ : Sg} (h : Sd σ w0.heap.size lb off bb p r c d w) (hlb : w0.heap.size ≤ lb) (hpb : w0.heap.size ≤ p) (hB : Below w0.heap.size w0 w) (who a : Int) (ad : Option Addr) (cap : Nat) (x : List Nat) (hx : RdB w0 ad x) (hbx : Byt x) (hxl : x.length ≤ 300) (hf : Fz d) (hw0 : 0 ≤ d.writes) (hwm : d.writes ≤ 4611686018427387904) : Calls Tryz.prog 12 #[.pointer (some ⟨lb, off, none⟩), .agg #[.int .i64 1, .int .i64 who, .int .i64 a, .slice ad x.length cap]] w fun e w' => e = .returned (.bool true) ∧ Sd σ w0.heap.size lb off bb p r c (dWr d a x).2 w' ∧ Ev w0.heap.size lb off p r w w' := by
  have hmx : Tryz.prog.follows .mixedOrders = true := by kernel_rfl
  obtain ⟨n, hn⟩ : ∃ n, x.length = n := ⟨_, rfl⟩
  obtain ⟨d2, hd2⟩ : ∃ d2, (dWr d a x).2 = d2 := ⟨_, rfl⟩
  obtain ⟨R, hR⟩ : ∃ R, (dWr d a x).1 = R := ⟨_, rfl⟩
  rw [hd2, hn]
  obtain ⟨w1, hw1⟩ : ∃ w1, w.alloc (.cells #[.int .i64 1, .int .i64 who, .int .i64 a, .slice ad n cap] 61) = w1 := ⟨_, rfl⟩
  have hb1 : Below w.heap.size w w1 := by rw [← hw1]; exact al1' _ _
  have hO : OpB w1 w.heap.size 1 who a (.slice ad n cap) := by rw [← hw1]; exact new_at rfl
  have hS := h.carry hb1
  have o0 := hO.c0
  have o3 := hO.c3
  have hE1 : Ev w0.heap.size lb off p r w w1 := Ev.of _ _ _ _ hb1 h.bz
  have hB1 := hB.trans (hb1.mono hB.size)
  have hle := lentB_any ad cap x w1 (hx.carry hB1) (by omega)
  rw [hn] at hle
  obtain ⟨g, hg⟩ : ∃ g, w1.heap.size = g := ⟨_, rfl⟩
  rw [hg] at hle
  obtain ⟨_, curR, hcr⟩ := h.rf.rb
  have hgr : g ≠ r := by have := lt_at hcr; have := hb1.size; omega
  have hgw : w.heap.size ≤ g := by have := hb1.size; omega
  obtain ⟨curL, hcL⟩ := h.rf.lk
  have hgl : lb ≠ g := by have := lt_at hcL; omega
  have HN : Hid (x.length = n) := hn
  have HD : Hid ((dWr d a x).2 = d2) := hd2
  have HR : Hid ((dWr d a x).1 = R) := hR
  have hrr := h.rf.rb.1
  have hbz := h.bz
  have hsr := h.sr
  have hni : n ≤ 300 := by omega
  have HG : Hid (w1.heap.size = g) := hg
  clear h hn hd2 hR hcr hcL hxl hB hg
  go_enter Tryz.func12, Tryz.ntmps12
  go_wp2_with (go_at_call 21; (with_reducible refine hle.mono ?_); rintro e u1 ⟨rfl, hl1, hbu⟩)
  have hbu' : Below w1.heap.size w1 u1 := by rw [HG.out]; exact hbu
  have hS1 := (hS.carry hbu').sg (hS.nk.more u1 (fun _ _ _ q => q.carry hbu') hbu'.block hbu'.size (Nat.le_of_eq HG.out) (lt_at hl1)) (.inl hsr)
  have hO1 := hO.carry hbu'
  have hE2 := hE1.trans (Ev.of lb off p r hbu' hS.bz)
  have hB2 := hB1.trans (hbu'.mono hB1.size)
  have hL1 : LeB u1 g (mk9 x) := hl1
  clear hS hO o0 o3 hE1 hB1 hle hbu hbu' hl1 hw1 hb1
  refine wp_region_any hmx ?_
  refine wpAny_last2 7 (fun i__ => ([(.pointer (some ⟨lb, off, none⟩)), (.pointer (some ⟨lb, off, none⟩)), (.pointer (some ⟨lb, off, none⟩)), (.pointer (some ⟨p, 0, none⟩)), (.pointer (some ⟨w.heap.size, 2, none⟩)), (.int .i64 a), (.slice (some ⟨g, 0, none⟩) n (n + 9)), (.int .i64 R), (.int .i64 R)] : List Value).getD i__ undef) (fun V => Sd (oneMore σ g) w0.heap.size lb off bb p r c d V ∧ OpB V w.heap.size 1 who a (.slice ad n cap) ∧ LeB V g (mk9 x) ∧ Ev w0.heap.size lb off p r w V ∧ Below w0.heap.size w0 V) (fun V => Sm (oneMore σ g) w0.heap.size lb off bb p r c d d2 V ∧ OpB V w.heap.size 1 who a (.slice ad n cap) ∧ LeB V g (mk9 x) ∧ Ev w0.heap.size lb off p r w V ∧ Below w0.heap.size w0 V) (fun V => Sm (oneMore σ g) w0.heap.size lb off bb p r c d d2 V ∧ OpB V w.heap.size 1 who a (.slice ad n cap) ∧ LeB V g (mk9 x) ∧ Ev w0.heap.size lb off p r w V ∧ Below w0.heap.size w0 V) rfl (by kernel_rfl) (by kernel_rfl) ⟨hS1.carry (Below.refl _ _).drew, hO1.carry (Below.refl _ _).drew, hL1.carry (Below.refl _ _).drew, hE2.trans (Ev.of _ _ _ _ (Below.refl _ _).drew hS1.bz), hB2.drew⟩ ?_ ?_ ?_  ?_
  · refine (stepsFrom_cons ?_ (stepsFrom_cons ?_ (stepsFrom_cons ?_ (stepsFrom_cons ?_ (stepsFrom_cons ?_ (stepsFrom_cons ?_ (stepsFrom_cons ?_ trivial)))))))
    · exact step_move rfl trivial _ rfl (by kernel_rfl)
    · exact step_nilCheck rfl trivial _ _ _ rfl rfl rfl
    · exact step_fieldAddr rfl trivial _ _ _ _ rfl rfl (fun v hw => field_bo0 v _ _)
    · exact step_load rfl trivial _ _ _ rfl rfl (fun v hw => load_bop hw.1.c0)
    · exact step_fieldAddr rfl trivial _ _ _ _ rfl rfl (fun v hw => field_op2 v _)
    · exact step_load rfl trivial _ _ _ rfl rfl (fun v hw => load_boi hw.2.1.c2)
    · exact step_move rfl trivial _ rfl (by kernel_rfl)
  · intro o ho
    cases ho
    exact step_call rfl trivial 15 _ _ [(.pointer (some ⟨p, 0, none⟩)), (.int .i64 a), (.slice (some ⟨g, 0, none⟩) n (n + 9))] rfl (by kernel_rfl) (enters_of Tryz.func15 (by kernel_rfl) rfl) (fun v hw => by have q := write_any hw.1.dk a (some ⟨g, 0, none⟩) (n + 9) x hw.2.2.1.rd hbx hf hw0 hwm; rw [HD.out, HR.out, HN.out] at q; exact q.mono (by rintro e w' ⟨rfl, h2, t2⟩; exact ⟨rfl, hw.1.tp t2 h2, hw.2.1.tp hw.1.dk t2, hw.2.2.1.tp hw.1.dk t2, hw.2.2.2.1.trans (Ev.tp t2 hw.1.ne hw.1.pb hw.1.bz), hw.2.2.2.2.trans (t2.below hpb hw.2.2.2.2.size)⟩))
  · intro o ho
    cases ho
    exact step_assign rfl trivial _ rfl (by kernel_rfl) (fun _ h => h)
  intro W hW
  first | refine hK _ _ ?_ | refine (‹∀ (a : Act) (w : World), Code.wp Tryz.prog _ _ a w → _›) _ _ ?_
  simp only [finL, List.getD_cons_zero, List.getD_cons_succ, Nat.zero_add, Nat.reduceAdd, List.setIfInBounds_toArray, List.set_cons_zero, List.set_cons_succ]
  obtain ⟨hS2, hO2, hL2, hE3, hB3⟩ := hW
  clear hS1 hO1 hL1 hE2 hB2
  go_wp2
  refine wp_region_any hmx ?_
  refine wpAny_last2 7 (fun i__ => ([(.pointer (some ⟨lb, off, none⟩)), (.pointer (some ⟨lb, off, none⟩)), (.pointer (some ⟨lb, off + 1, none⟩)), (.pointer (some ⟨w.heap.size, 2, none⟩)), (.int .i64 a), (.pointer (some ⟨w.heap.size, 3, none⟩)), (.slice ad n cap), (.int .i64 R), (.int .i64 R)] : List Value).getD i__ undef) (fun V => Sm (oneMore σ g) w0.heap.size lb off bb p r c d d2 V ∧ OpB V w.heap.size 1 who a (.slice ad n cap) ∧ LeB V g (mk9 x) ∧ Ev w0.heap.size lb off p r w V ∧ Below w0.heap.size w0 V) (fun V => Sd (oneMore σ g) w0.heap.size lb off bb p r c d2 V ∧ OpB V w.heap.size 1 who a (.slice ad n cap) ∧ LeB V g (mk9 x) ∧ Ev w0.heap.size lb off p r w V ∧ Below w0.heap.size w0 V) (fun V => Sd (oneMore σ g) w0.heap.size lb off bb p r c d2 V ∧ OpB V w.heap.size 1 who a (.slice ad n cap) ∧ LeB V g (mk9 x) ∧ Ev w0.heap.size lb off p r w V ∧ Below w0.heap.size w0 V) rfl (by kernel_rfl) (by kernel_rfl) ⟨hS2.carry (Below.refl _ _).drew, hO2.carry (Below.refl _ _).drew, hL2.carry (Below.refl _ _).drew, hE3.trans (Ev.of _ _ _ _ (Below.refl _ _).drew hS2.bz), hB3.drew⟩ ?_ ?_ ?_  ?_
  · refine (stepsFrom_cons ?_ (stepsFrom_cons ?_ (stepsFrom_cons ?_ (stepsFrom_cons ?_ (stepsFrom_cons ?_ (stepsFrom_cons ?_ (stepsFrom_cons ?_ trivial)))))))
    · exact step_move rfl trivial _ rfl (by kernel_rfl)
    · exact step_nilCheck rfl trivial _ _ _ rfl rfl rfl
    · exact step_fieldAddr rfl trivial _ _ _ _ rfl rfl (fun v hw => field_bo1 v _ _)
    · exact step_fieldAddr rfl trivial _ _ _ _ rfl rfl (fun v hw => field_op2 v _)
    · exact step_load rfl trivial _ _ _ rfl rfl (fun v hw => load_boi hw.2.1.c2)
    · exact step_fieldAddr rfl trivial _ _ _ _ rfl rfl (fun v hw => field_op3 v _)
    · exact step_load rfl trivial _ _ _ rfl rfl (fun v hw => load_op_s hw.2.1)
  · intro o ho
    cases ho
    exact step_call rfl trivial 22 _ _ [(.pointer (some ⟨lb, off + 1, none⟩)), (.int .i64 a), (.slice ad n cap)] rfl (by kernel_rfl) (enters_of Tryz.func22 (by kernel_rfl) rfl) (fun v hw => by have q := rwrite_any hw.1.rf hlb hw.2.2.2.2 a ad cap x hx hbx hf hw0 hwm; rw [HD.out, HR.out, HN.out] at q; exact q.mono (by rintro e w' ⟨rfl, h2, t2⟩; exact ⟨rfl, hw.1.tf t2 h2, hw.2.1.tf hw.1.rf t2, hw.2.2.1.tf hw.1.rf hgr t2, hw.2.2.2.1.trans (Ev.tf t2 hw.1.lb0 hw.1.rf.rb.1 hw.1.bz), hw.2.2.2.2.trans (t2.below hlb hrr hw.2.2.2.2.size)⟩))
  · intro o ho
    cases ho
    exact step_assign rfl trivial _ rfl (by kernel_rfl) (fun _ h => h)
  intro W hW
  first | refine hK _ _ ?_ | refine (‹∀ (a : Act) (w : World), Code.wp Tryz.prog _ _ a w → _›) _ _ ?_
  simp only [finL, List.getD_cons_zero, List.getD_cons_succ, Nat.zero_add, Nat.reduceAdd, List.setIfInBounds_toArray, List.set_cons_zero, List.set_cons_succ]
  obtain ⟨hS3, hO3, hL3, hE4, hB4⟩ := hW
  clear hS2 hO2 hL2 hE3 hB3
  have o3 := hO3.c3
  have hst := staysB_any g ad (n + 9) cap x W (lt_at hL3) hL3.at (by rw [HN.out]; exact Nat.le_refl _) (hx.carry hB4) (by rw [HN.out]; omega)
  rw [HN.out] at hst
  go_wp2_with (go_at_call 23; (with_reducible refine hst.mono ?_); rintro e u2 ⟨rfl, hb2⟩)
  have hS4 := hS3.carry hb2
  have hE5 := hE4.trans (Ev.of lb off p r hb2 hS3.bz)
  have hL4 := hL3.carry hb2
  clear hst hS3 hE4 hL3 hO3 o3 hB4
  go_loopw [9] (fun i wz => ∃ (m : Nat) (cur : Array Value), i = .int .i64 (m : Int) ∧ m ≤ n ∧ wz.heap[g]? = some (.cells cur 5 (0, 0)) ∧ n ≤ cur.size ∧ Sd (oneMore σ g) w0.heap.size lb off bb p r c d2 wz ∧ Ev w0.heap.size lb off p r w wz) (fun i _ => n - vnat i)
  case atStart => exact ⟨0, _, rfl, Nat.zero_le _, hL4, by rw [List.size_toArray, cB_len, mk9_len, HN.out]; omega, hS4, hE5⟩
  case round =>
    obtain ⟨m, cur, rfl, hm, hgc, hcs, hSz, hEz⟩ := hrel
    by_cases hmn : m < n
    · have hmi : (m : Int) < (n : Int) := by omega
      have c0 : wr.cell? ⟨g, m, none⟩ = some (cur[m]'(by omega)) := by rw [cell_at hgc]; exact Array.getElem?_eq_getElem _
      have z0 := thaw_at hgc m
      have HB : Hid (∀ k, k < wr.heap.size → k ≠ g → (wr.setCell ⟨g, m, none⟩ (.int .u8 90)).heap[k]? = wr.heap[k]?) := fun k _ hk => Below.heap_setCell _ _ _ _ hk
      have HS : Hid (wr.heap.size ≤ (wr.setCell ⟨g, m, none⟩ (.int .u8 90)).heap.size) := by show _ ≤ _; simp
      have HH : Hid ((wr.setCell ⟨g, m, none⟩ (.int .u8 90)).heap[g]? = some (.cells (cur.setIfInBounds m (.int .u8 90)) 5 (0, 0))) := heap_setCell_same _ _ m _ _ _ hgc
      obtain ⟨y, hy⟩ : ∃ y, cur[m]'(by omega) = y := ⟨_, rfl⟩
      rw [hy] at c0
      go_wp2
      go_roundw
      case rel => exact ⟨m + 1, _, by simp, by omega, HH.out, by simpa using hcs, hSz.blk hgc hgr HS.out HB.out (.inr rfl), hEz.blk hbz hgw hgl rfl rfl rfl HS.out HB.out⟩
      case measure => simp [vnat]; omega
    · have hmm : m = n := by omega
      subst hmm
      go_wp2
      go_ret
      exact ⟨rfl, hSz.sg (hSz.nk.less (fun b q => .inl q)) hsr, hEz⟩
end
end Go.Proofs.YtkbeoliglnikiaaGreat
