/- bag's All as an iterator over an iterator: at every bag. -/
import Derived.Test.YtjfbnikbmadgkaaGreatBgi
import Derived.Carry
import Derived.Laws.EntriesVeiled
namespace Go.Proofs.YtjfbnikbmadgkaaGreat
open Go.RowKit Go.Shelf Go.Lib
attribute [local go_sem] Oper.semAt_some

theorem round_in {F : Fence} {n : Nat} {P : Program} {l : Nat} {f : FuncId} {tmps : Array Value} {assign body : Code} {w : World} {R : Ending → World → Prop} (l2 : Nat) (h : RoundIn F n P l f tmps assign body w R) : RoundIn (F.inRound l2) n P l f tmps assign body w R := h
theorem yield_in {n : Nat} {P : Program} {l : Nat} {args : Array Value} {W : World} {R : Ending → World → Prop} (l2 : Nat) (h : YieldAt Fence.wide 0 P l args W R) : YieldAt (Fence.wide.inRound l2) n P l args W R := by
  obtain ⟨fn, tmps, assign, body, hy, hR⟩ := yield_any (n' := n) h
  exact ⟨fn, tmps, assign, body, hy, round_in l2 hR⟩
theorem blk_own {β : Type} (B : Nat) (f : β → Obj) (hc : ∀ s, (f s).isCells = true) : Own (fun s W => W.heap[B]? = some (f s)) := fun s _ _ _ hs hg hrow => (grownBy_keeps_cells hg hrow hs (hc s)).trans hs
theorem below_taken {n : Nat} {w W : World} {k : Nat} (o : Obj) (h : Below n w W) (hk : n ≤ k) : Below n w (W.putObj k o) :=
  h.trans ⟨rfl, rfl, rfl, by simp, fun j hj => World.putObj_heap_other (by omega)⟩
/-- What a datagram is given as. -/
def GvR (B : Nat) (pre : List Gr) (x : Gr) (vs : Array Value) (Wb W : World) : Prop := ∃ a c, vs = #[.int .i64 (pre.length : Int), gV x a c] ∧ W.ownsRow B 5 1 (.slice a x.2.2.2.length c) x.2.2.2.length (cB x.2.2.2) ∧ ∀ b, ob a = some b → Wb.heap.size ≤ b
theorem pfx_get {α : Type} {pre l : List α} {x : α} (h : pre ++ [x] <+: l) : l[pre.length]? = some x := by
  obtain ⟨r, hr⟩ := h
  rw [← hr, List.append_assoc, List.getElem?_append_right (Nat.le_refl _)]
  simp
/-- What holds in a round. -/
def JRo (J Jx : List Gr → World → Prop) (B bx sz : Nat) (ll : Nat) (pre : List Gr) (x : Gr) (Wb : World) (g : Option Addr × Nat × Bool) (d3 d4 : Bool) (W : World) : Prop :=
  match d3, d4 with
  | false, _ => W.heap[B]? = some (.cells #[.func (.yield ll) #[] #[]] 164 (0, 0)) ∧ J pre W ∧ Below Wb.heap.size Wb W
  | true, false => W.heap[B]? = some (.cells #[.func (.yield ll) #[] #[]] 164 (0, 0)) ∧ J pre W ∧ Below Wb.heap.size Wb W ∧ W.ownsRow sz 5 1 (.slice g.1 x.2.2.2.length g.2.1) x.2.2.2.length (cB x.2.2.2) ∧ ∀ b, ob g.1 = some b → Wb.heap.size ≤ b
  | true, true => Kept bx B 3 Wb W ∧ W.heap[B]? = some (.cells #[.func (.yield ll) #[] #[]] 164 (0, 0)) ∧ ((g.2.2 = true ∧ J (pre ++ [x]) W) ∨ (g.2.2 = false ∧ Jx (pre ++ [x]) W))
theorem JRo.box {J Jx : List Gr → World → Prop} {B bx sz : Nat} {ll : Nat} {pre : List Gr} {x : Gr} {Wb : World} {g : Option Addr × Nat × Bool} {d3 d4 : Bool} {W : World} (h : JRo J Jx B bx sz ll pre x Wb g d3 d4 W) : W.heap[B]? = some (.cells #[.func (.yield ll) #[] #[]] 164 (0, 0)) := by
  match d3, d4, h with
  | false, _, h => exact h.1
  | true, false, h => exact h.1
  | true, true, h => exact h.2.1
theorem load_fn {V : World} {B : Nat} {v : Value} (h : V.heap[B]? = some (.cells #[v] 164 (0, 0))) : (Instr.loadAt 164 (.pointer (some ⟨B, 0, none⟩))).run Tryz.prog V = .ok v V := by
  have c0 := cell_at h 0
  simp at c0
  go_simp
theorem un_not (b : Bool) (W : World) : (Op.unary .not (.bool b)).run Tryz.prog W = .ok (.bool (!b)) W := by go_simp
set_option maxHeartbeats 4000000 in
set_option maxRecDepth 100000 in
theorem ball1_seq (base : Nat) (a : Option Addr) (c : Nat) (ps : List Nat) (l : List Gr) (bx bx2 : Nat) (w : World) (hn : ps.length ≤ 65536) (hcl : CL base a c ps l w) (hb : w.heap[bx]? = some (.cells #[.slice a ps.length c] 52 (0, 0))) (hb2 : w.heap[bx2]? = some (.cells #[.func (.func 120) #[] #[.pointer (some ⟨bx, 0, none⟩)]] 162 (0, 0))) :
    SeqR Tryz.prog (CL base a c ps l) 117 #[.pointer (some ⟨bx2, 0, none⟩)] (GvR w.heap.size) bx 3 l w := by
  intro ll J Jx W0 hW hJ hJx hE hY h0
  have hmx : Tryz.prog.follows .mixedOrders = true := by kernel_rfl
  have hb2' := (hW.block _ (lt_at hb2)).trans hb2
  have c0 := cell_at hb2' 0
  simp only [List.getElem?_toArray, List.getElem?_cons_zero] at c0
  obtain ⟨W1, hW1⟩ : ∃ W1, W0.alloc (.cells #[.func (.yield ll) #[] #[]] 164) = W1 := ⟨_, rfl⟩
  have hbW1 : Below W0.heap.size W0 W1 := by rw [← hW1]; exact al1' _ _
  have hz1 : W1.heap.size = W0.heap.size + 1 := by rw [← hW1]; simp
  have hB1 : W1.heap[W0.heap.size]? = some (.cells #[.func (.yield ll) #[] #[]] 164 (0, 0)) := by rw [← hW1]; exact new_at rfl
  have hbx1 : W1.heap[bx]? = some (.cells #[.slice a ps.length c] 52 (0, 0)) := (hbW1.block _ (Nat.lt_of_lt_of_le (lt_at hb) hW.size)).trans ((hW.block _ (lt_at hb)).trans hb)
  have hj1 : J [] W1 := own_below hJ h0 hbW1
  have c0' : W1.cell? ⟨bx2, 0, none⟩ = some (.func (.func 120) #[] #[.pointer (some ⟨bx, 0, none⟩)]) := (hbW1.cell (p := ⟨bx2, 0, none⟩) (Nat.lt_of_lt_of_le (lt_at hb2) hW.size)).trans c0
  have hseq := sall1_seq base a c ps bx W1 hn hbx1
  have hbxl : bx < W1.heap.size := lt_at hbx1
  have hlen := hcl.len
  have hbxW : bx < W0.heap.size := Nat.lt_of_lt_of_le (lt_at hb) hW.size
  have hwW : w.heap.size ≤ W0.heap.size := hW.size
  refine callsIn_of_wp_marks Tryz.func117 rfl trivial ?_ rfl
  simp only [Tryz.ntmps117, List.size_toArray, List.length_cons, List.length_nil, Nat.reduceAdd, Nat.reduceSub, Array.replicate_succ, Array.replicate_zero, List.push_toArray, List.append_toArray, List.nil_append, List.cons_append]
  gi_wp2
  refine wp_rangeR (kb := 0) (gf := 120) (lb := #[.pointer (some ⟨bx, 0, none⟩)]) rfl (enters_of Tryz.func120 (by kernel_rfl) rfl)
    hseq hbxl (fun pre x vs Vb V h => by rw [h]; rfl)
    (fun pre V => V.heap[W0.heap.size]? = some (.cells #[.func (.yield ll) #[] #[]] 164 (0, 0)) ∧ J (l.take pre.length) V)
    (fun co pre V => co = .ret ∧ Jx (l.take pre.length) V)
    (OwnFrom.and ((blk_own W0.heap.size (fun _ : List Nat => (.cells #[.func (.yield ll) #[] #[]] 164 (0, 0))) (fun _ => rfl)).from _) (fun s X Y row hs hg hr => ownFrom_le hJ (by omega : W0.heap.size ≤ W1.heap.size) _ X Y row hs hg hr))
    (fun co s X Y row hs hg hr => ⟨hs.1, ownFrom_le hJx (by omega : W0.heap.size ≤ W1.heap.size) _ X Y row hs.2 hg hr⟩)
    ⟨hB1, hj1⟩ (fun pre V h => (hE _ _ h.2).row)
    (fun pre q a' V => a' = { tmps := #[.func (.yield ll) #[] #[], .pointer (some ⟨bx2, 0, none⟩), .pointer (some ⟨W0.heap.size, 0, none⟩), .int .i64 (pre.length : Int), .pointer (some ⟨q, 0, none⟩), .func (.func 120) #[] #[.pointer (some ⟨bx, 0, none⟩)], .int .i64 (pre.length : Int), .pointer (some ⟨q, 0, none⟩), undef, undef, undef, undef, undef, undef], defers := [] })
    (fun pre q a' s X Y row hs hg hr => hs) ?assign ?body ?done ?stop
  case assign =>
    rintro l2 pre q vs Vb V K _ _ ⟨hs, hj⟩ hsz rfl hK
    gi_wp2
    exact hK _ _ (Kept.refl _ _ _ _) ⟨hs, hj⟩ rfl
  case body =>
    rintro l2 pre q a' V ⟨hs, hj⟩ rfl hsz hpr
    have hq := pfx_get hpr
    have hkl : pre.length < l.length := by have := (List.getElem?_eq_some_iff.1 hq).1; omega
    obtain ⟨x, hx⟩ : ∃ x, l[pre.length]? = some x := ⟨_, List.getElem?_eq_getElem hkl⟩
    have HT : Hid (l.take (pre.length + 1) = l.take pre.length ++ [x]) := by
      show _ = _
      rw [List.take_add_one, hx]
      rfl
    have hlk : (l.take pre.length).length = pre.length := by rw [List.length_take]; omega
    have hpl : l.take pre.length ++ [x] <+: l := by rw [← HT.out]; exact List.take_prefix _ _
    have hgm : ∀ V', J (l.take pre.length) V' → GmAt (fun _ => False) V' q x := fun V' h => (hE _ _ h).gr _ _ _ hq hx
    have hs' : V.drew.heap[W0.heap.size]? = some (.cells #[.func (.yield ll) #[] #[]] 164 (0, 0)) := hs
    have hj' : J (l.take pre.length) V.drew := own_below hJ hj (Below.refl _ _).drew
    have tld : ∀ {d : Nat → Bool} (g : Option Addr × Nat × Bool) (V' : World), JRo J Jx W0.heap.size bx w.heap.size ll (l.take pre.length) x V g (d 3) (d 4) V' → d 3 = false → d 4 = false → Calls Tryz.prog 81 #[.pointer (some ⟨q, 0, none⟩)] V' fun e w' => ∃ g' : Option Addr × Nat × Bool, e = .returned (gV x g'.1 g'.2.1) ∧ JRo J Jx W0.heap.size bx w.heap.size ll (l.take pre.length) x V g' true (d 4) w' := by
      intro d g V' hJ1 h3 h4
      rw [h3] at hJ1
      obtain ⟨k1, k2, k3⟩ := hJ1
      refine (told_any (hgm _ k2)).mono ?_
      rintro e w' ⟨a1, c1, rfl, ho, hb'⟩
      rw [h4]
      have := k3.size
      exact ⟨(a1, c1, g.2.2), rfl, (hb'.block _ (lt_at k1)).trans k1, own_below hJ k2 hb', bel2 k3 hb', row_base ho (by omega), fun b hb => by have := own_block ho b (by rw [ob_eq]; exact hb); omega⟩
    have yld : ∀ {d : Nat → Bool} (g : Option Addr × Nat × Bool) (V' : World), JRo J Jx W0.heap.size bx w.heap.size ll (l.take pre.length) x V g (d 3) (d 4) V' → d 3 = true → d 4 = false → YieldAt (Fence.wide.inRound l2) (0 - 1) Tryz.prog ll #[.int .i64 (pre.length : Int), gV x g.1 g.2.1] V' fun e w' => ∃ g' : Option Addr × Nat × Bool, e = .returned (.bool g'.2.2) ∧ g' = (g.1, g.2.1, g'.2.2) ∧ JRo J Jx W0.heap.size bx w.heap.size ll (l.take pre.length) x V g' (d 3) true w' := by
      intro d g V' hJ1 h3 h4
      rw [h3, h4] at hJ1
      obtain ⟨k1, k2, k3, k4, k5⟩ := hJ1
      have := k3.size
      have hy := hY _ x #[.int .i64 (pre.length : Int), gV x g.1 g.2.1] V V' hj k3 k2 (by omega) hpl ⟨g.1, g.2.1, by rw [hlk], k4, k5⟩
      refine yield_in l2 (hy.mono ?_)
      rintro e w' ⟨hkp, h⟩
      rw [h3]
      have hk0 : Kept bx W0.heap.size 3 V V' := Kept.below k3 (by omega) (by omega)
      have hbx' : w'.heap[W0.heap.size]? = some (.cells #[.func (.yield ll) #[] #[]] 164 (0, 0)) := (hkp.rng _ (Nat.le_refl _) (by omega)).trans k1
      rcases h with ⟨rfl, h⟩ | ⟨rfl, h⟩
      · exact ⟨(g.1, g.2.1, true), rfl, rfl, hk0.trans hkp, hbx', .inl ⟨rfl, h⟩⟩
      · exact ⟨(g.1, g.2.1, false), rfl, rfl, hk0.trans hkp, hbx', .inr ⟨rfl, h⟩⟩
    gi_wp2
    refine wpIn_region_any hmx ?_
    refine wpAnyIn_tabG (G := (Option Addr × Nat × Bool)) (fun g i__ => ([(.func (.yield ll) #[] #[]), (.int .i64 (pre.length : Int)), (.pointer (some ⟨q, 0, none⟩)), (gV x g.1 g.2.1), (.bool g.2.2), (.bool (!g.2.2))] : List Value).getD i__ undef) (fun g d V' => JRo J Jx W0.heap.size bx w.heap.size ll (l.take pre.length) x V g (d 3) (d 4) V') (by kernel_rfl) ((none, 0, false)) (by exact ⟨hs', hj', (Below.refl _ _).drew⟩) ?step5 ?fin5
    case step5 =>
      intro i o ho
      have hi : i < 6 := getElem?_lt ho
      match i, hi, ho with
      | 0, _, ho =>
        cases ho
        refine stepGI_of (fun g d hun hdep => ?_)
        exact stepJ_load (wideF_round _) rfl trivial _ _ _ rfl rfl (fun v hw => load_fn hw.box)
      | 1, _, ho =>
        cases ho
        refine stepGI_of (fun g d hun hdep => ?_)
        exact stepJ_move (wideF_round _) rfl trivial _ rfl (by kernel_rfl)
      | 2, _, ho =>
        cases ho
        refine stepGI_of (fun g d hun hdep => ?_)
        exact stepJ_move (wideF_round _) rfl trivial _ rfl (by kernel_rfl)
      | 3, _, ho =>
        cases ho
        exact stepGI_call (wideF_round _) rfl rfl 81 _ _ (fun _ => [.pointer (some ⟨q, 0, none⟩)]) rfl (fun g => rfl) (enters_of Tryz.func81 (by kernel_rfl) rfl) (fun g d V' hJ hun hdep hcl => (tld g V' hJ hun (by cases h : d 4 with | false => rfl | true => exact absurd (hcl 4 _ rfl h 3 (by kernel_rfl)) (by rw [hun]; simp))).mono (by rintro e w' ⟨g', rfl, hJ'⟩; exact ⟨g', rfl, (fun j hj => match j, hj with | 3, hj => (by rw [hj] at hun; cases hun) | 4, hj => absurd ((hcl 4 _ rfl hj 3 (by kernel_rfl))) (by rw [hun]; simp) | 5, hj => absurd ((hcl 4 _ rfl (hcl 5 _ rfl hj 4 (by kernel_rfl)) 3 (by kernel_rfl))) (by rw [hun]; simp) | 0, _ => rfl | 1, _ => rfl | 2, _ => rfl | _ + 6, _ => rfl), hJ'⟩))
      | 4, _, ho =>
        cases ho
        exact stepGI_yield (wideF_round _) rfl rfl ll _ _ _ (fun g => [.int .i64 (pre.length : Int), gV x g.1 g.2.1]) rfl (fun g => rfl) (fun g => rfl) (fun g d V' hJ hun hdep hcl => (yld g V' hJ (hdep 3 (by kernel_rfl)) hun).mono (by rintro e w' ⟨g', rfl, hg', hJ'⟩; exact ⟨g', rfl, (by rw [hg']; exact (fun j hj => match j, hj with | 4, hj => (by rw [hj] at hun; cases hun) | 5, hj => absurd ((hcl 5 _ rfl hj 4 (by kernel_rfl))) (by rw [hun]; simp) | 0, _ => rfl | 1, _ => rfl | 2, _ => rfl | 3, _ => rfl | _ + 6, _ => rfl)), hJ'⟩))
      | 5, _, ho =>
        cases ho
        refine stepGI_of (fun g d hun hdep => ?_)
        exact stepJ_unOp (wideF_round _) rfl trivial _ _ _ _ rfl rfl (fun v hw => un_not _ v)
    intro g d W hall hW
    first | refine hK _ _ ?_ | refine (‹∀ (a : Act) (w : World), Code.wp Tryz.prog _ _ a w → _›) _ _ ?_ | skip
    simp only [finL, List.getD_cons_zero, List.getD_cons_succ, Nat.zero_add, Nat.reduceAdd, List.setIfInBounds_toArray, List.set_cons_zero, List.set_cons_succ]
    have hJ1 : JRo J Jx W0.heap.size bx w.heap.size ll (l.take pre.length) x V g (d 3) (d 4) W := hW
    rw [hall 3 (by decide), hall 4 (by decide)] at hJ1
    obtain ⟨hkp, hbo, hfin⟩ := hJ1
    clear hW tld yld hs' hj'
    have hkp2 : Kept bx W1.heap.size (0 + 2) V W := hkp.less (by omega) (by omega)
    rcases hfin with ⟨e, hj2⟩ | ⟨e, hj2⟩
    · rw [e]
      gi_wp2
      refine ⟨hkp2, hbo, ?_⟩
      rw [List.length_append, List.length_singleton, HT.out]
      exact hj2
    · rw [e]
      gi_wp2
      refine ⟨hkp2, rfl, ?_⟩
      rw [List.length_append, List.length_singleton, HT.out]
      exact hj2
  case done =>
    rintro V ⟨hs, hj⟩ hK
    gi_wp2
    refine ⟨by simp, .inl ⟨_, _, rfl, run_takeDeferred hK, ?_⟩⟩
    rw [hlen, List.take_length] at hj
    refine ⟨.tuple #[], by simp [results, Tryz.results117], ⟨_, rfl⟩, .inl ?_⟩
    exact hJ.putObj _ hj (by omega) hK rfl
  case stop =>
    rintro co pre V hpr ⟨rfl, hjx⟩ hK
    gi_wp2
    refine ⟨by simp, .inl ⟨_, _, rfl, run_takeDeferred hK, ?_⟩⟩
    refine ⟨.tuple #[], by simp [results, Tryz.results117], ⟨_, rfl⟩, .inr ⟨l.take pre.length, List.take_prefix _ _, ?_⟩⟩
    exact hJx.putObj _ hjx (by omega) hK rfl
section
variable {w : World} {base p : Nat} {ad : Option Addr} {cap : Nat} {room last : Int} {ps : List Nat} {l : List Gr}
/-- What All gives, in a world: its boxes, the clone, the datagrams. -/
structure AL (W : World) (base bx2 bx : Nat) (a : Option Addr) (c : Nat) (ps : List Nat) (l : List Gr) : Prop where
  b2 : W.heap[bx2]? = some (.cells #[.func (.func 120) #[] #[.pointer (some ⟨bx, 0, none⟩)]] 162 (0, 0))
  b1 : W.heap[bx]? = some (.cells #[.slice a ps.length c] 52 (0, 0))
  cl : CL base a c ps l W
theorem AL.carry {W W' : World} {bx2 bx : Nat} {a : Option Addr} {c : Nat} (h : AL W base bx2 bx a c ps l) (hb : Below W.heap.size W W') : AL W' base bx2 bx a c ps l := ⟨(hb.block _ (lt_at h.b2)).trans h.b2, (hb.block _ (lt_at h.b1)).trans h.b1, h.cl.carry hb⟩
set_option maxHeartbeats 1000000 in
theorem sall_any (v : Value) (hv : ∃ a n c, v = .slice a n c) (w : World) : Calls Tryz.prog 118 #[v] w fun e w' => e = .returned (.func (.func 120) #[] #[.pointer (some ⟨w.heap.size, 0, none⟩)]) ∧ w' = w.alloc (.cells #[v] 52) := by
  obtain ⟨a, n, c, rfl⟩ := hv
  go_enter Tryz.func118, Tryz.ntmps118
  go_wp2
  go_ret
  exact ⟨rfl, rfl⟩
set_option maxHeartbeats 1000000 in
theorem now_any {σ : Nat → Prop} (h : Bg σ w base p ad cap room last ps l) : Calls Tryz.prog 116 #[.pointer (some ⟨p, 0, none⟩)] w fun e w' => ∃ a c bx, e = .returned (.func (.func 120) #[] #[.pointer (some ⟨bx, 0, none⟩)]) ∧ w'.heap[bx]? = some (.cells #[.slice a ps.length c] 52 (0, 0)) ∧ CL w.heap.size a c ps l w' ∧ Below w.heap.size w w' := by
  have hk := kept_any h
  have hcl := cloneP_any ad cap base ps w h.row (by have := h.le; have := h.len; have := h.most; omega)
  go_enter Tryz.func116, Tryz.ntmps116
  go_wp2_with (first | (go_at_call 91; (with_reducible refine hk.mono ?_); rintro e u0 ⟨rfl, rfl⟩) | (go_at_call 119; (with_reducible refine hcl.mono ?_); rintro e u1 ⟨a, c, rfl, ho, hb1⟩; have hsa := sall_any (.slice a ps.length c) ⟨_, _, _, rfl⟩ u1) | (go_at_call 118; (with_reducible refine hsa.mono ?_); rintro e u2 ⟨rfl, rfl⟩))
  go_ret
  have hb2 := al1' u1 (.cells #[.slice a ps.length c] 52)
  exact ⟨a, c, _, rfl, new_at rfl, ⟨row_below ho hb2, h.len, fun k q x h1 h2 => (((h.gr k q x h1 h2).carry hb1).carry hb2).free⟩, bel2 hb1 hb2⟩
set_option maxHeartbeats 1000000 in
theorem ball_any {σ : Nat → Prop} (h : Bg σ w base p ad cap room last ps l) : Calls Tryz.prog 89 #[.pointer (some ⟨p, 0, none⟩)] w fun e w' => ∃ a c bx bx2, e = .returned (.func (.func 117) #[] #[.pointer (some ⟨bx2, 0, none⟩)]) ∧ AL w' w.heap.size bx2 bx a c ps l ∧ Below w.heap.size w w' := by
  have hn := now_any h
  go_enter Tryz.func89, Tryz.ntmps89
  go_wp2_with (go_at_call 116; (with_reducible refine hn.mono ?_); rintro e u0 ⟨a, c, bx, rfl, h1, h2, hb⟩)
  go_ret
  have hb2 := al1' u0 (.cells #[.func (.func 120) #[] #[.pointer (some ⟨bx, 0, none⟩)]] 162)
  exact ⟨a, c, bx, _, rfl, ⟨new_at rfl, old_at h1, h2.carry hb2⟩, bel2 hb hb2⟩
end
end Go.Proofs.YtjfbnikbmadgkaaGreat
