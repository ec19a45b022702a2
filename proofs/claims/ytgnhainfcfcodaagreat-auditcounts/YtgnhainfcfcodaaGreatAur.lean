/- SameEvents, lent, stays, alive: what they answer. -/
import Derived.Test.YtgnhainfcfcodaaGreatAul
import Derived.Test.YtgnhainfcfcodaaGreatAug
import Derived.Maps.AppendAt
import Derived.OwnWalk
import Derived.Laws.OwnMore
namespace Go.Proofs.YtgnhainfcfcodaaGreat
open Go.RowKit Go.Shelf Go.Lib
attribute [local go_sem] Oper.semAt_some

def vnA (v : Value) : Nat := match v with | .int _ n => n.toNat | _ => 0
structure JS2 (w : World) (b off c of : Nat) (l : List Ev) (V : World) : Prop where
  r1 : ∀ (k : Nat) (x : Ev), l[k]? = some x → ∀ (i : Nat) (v : Value), (ecA x)[i]? = some v → V.cell? ⟨b, off + k * 15 + i, none⟩ = some v
  r2 : ∀ (k : Nat) (x : Ev), l[k]? = some x → ∀ (i : Nat) (v : Value), (ecA x)[i]? = some v → V.cell? ⟨c, of + k * 15 + i, none⟩ = some v
  bl : Below w.heap.size w V
set_option maxHeartbeats 4000000 in
set_option maxRecDepth 100000 in
theorem sameE_any (ad ad2 : Option Addr) (cap cap2 : Nat) (l : List Ev) (w : World) (h : RdE w ad l) (h2 : RdE w ad2 l) (hl : l.length ≤ 1000000) : Calls Tryz.prog 22 #[.slice ad l.length cap, .slice ad2 l.length cap2] w fun e w' => e = .returned (.bool true) ∧ Below w.heap.size w w' := by
  have hmx : Tryz.prog.follows .mixedOrders = true := by kernel_rfl
  have H1 : Hid (RdE w ad l) := h
  have H2 : Hid (RdE w ad2 l) := h2
  clear h h2
  go_enter Tryz.func22, Tryz.ntmps22
  go_wp2
  go_loopw [5] (fun i wz => ∃ (k : Nat), i = .int .i64 (k : Int) ∧ k ≤ l.length ∧ Below w.heap.size w wz) (fun i _ => l.length - vnA i)
  case atStart => exact ⟨0, rfl, Nat.zero_le _, Below.refl _ _⟩
  case round =>
    obtain ⟨k, rfl, hk, hbw⟩ := hrel
    by_cases hkl : k < l.length
    · have hne : l ≠ [] := fun e => by subst e; simp at hkl
      obtain ⟨bA, off, e1, hbl, hat⟩ := H1.out.at' hne
      obtain ⟨cA, of, e2, hcl, hat2⟩ := H2.out.at' hne
      subst e1 e2
      have hj : JS2 w bA off cA of l wr := ⟨fun k x hx i v hv => (hbw.cell (p := ⟨bA, _, none⟩) hbl).trans (hat k x hx i v hv), fun k x hx i v hv => (hbw.cell (p := ⟨cA, _, none⟩) hcl).trans (hat2 k x hx i v hv), hbw⟩
      obtain ⟨x, hx⟩ : ∃ x, l[k]? = some x := ⟨_, List.getElem?_eq_getElem hkl⟩
      obtain ⟨hxe, hxu, _⟩ := H1.out.ok x (List.mem_of_getElem? hx)
      have hki : (k : Int) < (l.length : Int) := by omega
      clear hat hat2
      go_wp2
      refine wp_region_any hmx ?_
      refine wpAny_pure (fun i__ => ([(.slice (some ⟨bA, off, none⟩) l.length cap), (.int .i64 (k : Int)), (.pointer (some ⟨bA, off + k * 15, none⟩)), (evV x), (.slice (some ⟨cA, of, none⟩) l.length cap2), (.int .i64 (k : Int)), (.pointer (some ⟨cA, of + k * 15, none⟩)), (evV x), (.bool true), (.bool false)] : List Value).getD i__ undef) (fun W => JS2 w bA off cA of l W) (by kernel_rfl) ⟨fun k x hx i v hv => hj.r1 k x hx i v hv, fun k x hx i v hv => hj.r2 k x hx i v hv, hj.bl.drew⟩ ?_ ?_
      · refine (stepsFrom_cons ?_ (stepsFrom_cons ?_ (stepsFrom_cons ?_ (stepsFrom_cons ?_ (stepsFrom_cons ?_ (stepsFrom_cons ?_ (stepsFrom_cons ?_ (stepsFrom_cons ?_ (stepsFrom_cons ?_ (stepsFrom_cons ?_ trivial))))))))))
        · exact step_move rfl trivial _ rfl (by kernel_rfl)
        · exact step_move rfl trivial _ rfl (by kernel_rfl)
        · exact step_indexAddr rfl trivial _ _ _ _ _ rfl rfl rfl (fun w hw => idx_e bA off l.length cap k hkl w)
        · exact step_load rfl trivial _ _ _ rfl rfl (fun w hw => load_ev (fun i v hv => hw.r1 k x hx i v hv))
        · exact step_move rfl trivial _ rfl (by kernel_rfl)
        · exact step_move rfl trivial _ rfl (by kernel_rfl)
        · exact step_indexAddr rfl trivial _ _ _ _ _ rfl rfl rfl (fun w hw => idx_e cA of l.length cap2 k hkl w)
        · exact step_load rfl trivial _ _ _ rfl rfl (fun w hw => load_ev (fun i v hv => hw.r2 k x hx i v hv))
        · exact step_binOp rfl trivial _ _ _ _ _ _ _ rfl rfl rfl (fun w hw => (eqE _ _ x x hxe hxu hxe hxu w).trans (congrArg (fun z => Result.ok (Value.bool z) w) ((eqEv_iff x x).2 rfl)))
        · exact step_unOp rfl trivial _ _ _ _ rfl rfl (fun w hw => rfl)
      intro W hW
      first | refine hK _ _ ?_ | refine (‹∀ (a : Act) (w : World), Code.wp Tryz.prog _ _ a w → _›) _ _ ?_ | skip
      simp only [finL, List.getD_cons_zero, List.getD_cons_succ, Nat.zero_add, Nat.reduceAdd, List.setIfInBounds_toArray, List.set_cons_zero, List.set_cons_succ]
      go_wp2
      go_roundw
      case rel => exact ⟨k + 1, by simp, by omega, hW.bl⟩
      case measure => simp [vnA]; omega
    · have hkk : k = l.length := by omega
      subst hkk
      go_wp2
      go_ret
      exact ⟨rfl, hbw⟩
/-- The marks behind what is lent. -/
def mkE : List Ev := [⟨0, -77, 0, 0, 0, 0, 0, 0, 0⟩, ⟨0, -78, 0, 0, 0, 0, 0, 0, 0⟩]
def zC (k nd li ro : Int) : Array Value := #[.int .i64 k, .int .i64 nd, .int .i64 li, .int .i64 ro, .int .i64 0, .int .i64 0, .int .i64 0, .int .u32 0, .int .u32 0, .int .u32 0, .int .u32 0, .int .u32 0, .int .u32 0, .int .u32 0, .int .u32 0]
theorem zC_ec (k nd li ro : Int) : zC k nd li ro = ecA ⟨k, nd, li, ro, 0, 0, 0, 0, 0⟩ := by simp [zC, ecA, wdz]
theorem bs_E (k0 n0 l0 r0 k1 n1 l1 r1 : Int) (w : World) : (Instr.buildSlice 22 2 #[(0, .agg (zC k0 n0 l0 r0)), (1, .agg (zC k1 n1 l1 r1))]).run Tryz.prog w = .ok (.slice (some ⟨w.heap.size, 0, none⟩) 2 2) (w.alloc (.cells (zC k0 n0 l0 r0 ++ zC k1 n1 l1 r1) 59)) := by
  unfold zC
  kernel_rfl
theorem infoE : ∃ i, Tryz.prog.info? 59 = some i ∧ i.zero = some (.agg (zC 0 0 0 0)) ∧ i.size = 15 ∧ i.bytes = 88 := by
  have h : (Tryz.prog.info? 59).map (fun i => (i.zero, i.size, i.bytes)) = some (some (.agg (zC 0 0 0 0)), 15, 88) := by kernel_rfl
  cases hq : Tryz.prog.info? 59 with
  | none => rw [hq] at h; simp at h
  | some i =>
    rw [hq] at h
    simp at h
    exact ⟨i, rfl, h.1, h.2.1, h.2.2⟩
theorem wpList_bsl2 {P : Program} {ops : Array Oper} {rest : List Oper} {o : Oper} {a : Act} {w w' : World} {Q : Exit → Act → World → Prop} (hgd : o.guard = none) (t : TypeId) (x0 x1 : Operand) (ho : o.op = .buildSlice t 2 #[(0, x0), (1, x1)]) (v0 v1 v : Value) (h0 : a.eval x0 = v0) (h1 : a.eval x1 = v1) (hr : (Instr.buildSlice t 2 #[(0, v0), (1, v1)]).run P w = .ok v w')
    (h : wpList P ops Q rest (a.put o.dst v) w') : wpList P ops Q (o :: rest) a w :=
  wpList_plain hgd fun K hK => by
    unfold Oper.wp execOp
    simp only [ho, h0, h1, List.map_toArray, List.map_cons, List.map_nil, Sem.run_bind, hr, Result.andThen_ok, Sem.run_pure, Oper.upon_value]
    exact hK _ _ h
def l2 : List Ev := [⟨1, 0, 1, 1, 0, 0, 0, 0, 0⟩, ⟨2, 0, 2, 1, 0, 0, 0, 0, 0⟩]
theorem ck_l2 : ckO 3 1 l2 = (1, 220) := by decide +kernel
theorem ck_nil : ckO 3 1 [] = (0, 0) := by decide +kernel
theorem ecs_get {l : List Ev} {k : Nat} {x : Ev} (hk : l[k]? = some x) {i : Nat} {v : Value} (hv : (ecA x)[i]? = some v) : (ecs l)[k * 15 + i]? = some v := by
  have hi : i < 15 := by
    have := (Array.getElem?_eq_some_iff.1 hv).1
    simpa [ecA] using this
  rw [show ecs l = l.flatMap ec from rfl, fm_get ec 15 ec_len l k i x hk hi, ← hv]
  simp [ec]
theorem rdE_own {W : World} {base g n cap : Nat} {l : List Ev} (h : W.ownsRow base 59 15 (.slice (some ⟨g, 0, none⟩) n cap) n (ecs l)) (hn : n = l.length) : ∀ (k : Nat) (x : Ev), l[k]? = some x → ∀ (i : Nat) (v : Value), (ecA x)[i]? = some v → W.cell? ⟨g, 0 + k * 15 + i, none⟩ = some v := by
  intro k x hk i v hv
  have hlt : k < l.length := (List.getElem?_eq_some_iff.1 hk).1
  have hi : i < 15 := by
    have := (Array.getElem?_eq_some_iff.1 hv).1
    simpa [ecA] using this
  rw [Nat.zero_add]
  exact (h.cellAt _ (by omega)).trans (ecs_get hk hv)
theorem two_rd (e1 e2 : Ev) (W : World) (cs : Array Value) (hcs : cs = ecA e1 ++ ecA e2) (h1 : e1.he < S128 ∧ e1.un < S128 ∧ (Lit.int .i64 e1.k).wf = true) (h2 : e2.he < S128 ∧ e2.un < S128 ∧ (Lit.int .i64 e2.k).wf = true) : RdE (W.alloc (.cells cs 59)) (some ⟨W.heap.size, 0, none⟩) [e1, e2] := by
  have hg : (W.alloc (.cells cs 59)).heap[W.heap.size]? = some (.cells cs 59 (0, 0)) := new_at rfl
  refine ⟨fun _ => ⟨W.heap.size, 0, rfl, lt_at hg, fun k x hx i v hv => ?_⟩, fun x hx => ?_⟩
  · rw [cell_at hg, hcs]
    have := ecs_get hx hv
    rw [show ecs [e1, e2] = (ecA e1 ++ ecA e2).toList by simp [ecs, ec], Array.getElem?_toList] at this
    rw [Nat.zero_add]
    exact this
  · simp only [List.mem_cons, List.not_mem_nil, or_false] at hx
    rcases hx with rfl | rfl
    · exact h1
    · exact h2
theorem bldE (k li ro : Int) (w : World) : (Instr.build 59 #[(0, .int .i64 k), (2, .int .i64 li), (3, .int .i64 ro)]).run Tryz.prog w = .ok (.agg (zC k 0 li ro)) w := by
  unfold zC
  go_simp
theorem bldM (nd : Int) (w : World) : (Instr.build 59 #[(1, .int .i64 nd)]).run Tryz.prog w = .ok (.agg (zC 0 nd 0 0)) w := by
  unfold zC
  go_simp
set_option maxHeartbeats 4000000 in
set_option maxRecDepth 100000 in
theorem alive_any (w : World) : Calls Tryz.prog 4 #[] w fun e w' => e = .returned (.bool true) ∧ Below w.heap.size w w' := by
  have hr := two_rd ⟨1, 0, 1, 1, 0, 0, 0, 0, 0⟩ ⟨2, 0, 2, 1, 0, 0, 0, 0, 0⟩ w (zC 1 0 1 1 ++ zC 2 0 2 1) (by rw [zC_ec, zC_ec]) (by decide) (by decide)
  obtain ⟨U, hU⟩ : ∃ V, w.alloc (.cells (zC 1 0 1 1 ++ zC 2 0 2 1) 59) = V := ⟨_, rfl⟩
  rw [hU] at hr
  have bU : Below w.heap.size w U := by rw [← hU]; exact al1' _ _
  have HBS : Hid ((Instr.buildSlice 22 2 #[(0, .agg (zC 1 0 1 1)), (1, .agg (zC 2 0 2 1))]).run Tryz.prog w = .ok (.slice (some ⟨w.heap.size, 0, none⟩) 2 2) U) := by
    have := bs_E 1 0 1 1 2 0 2 1 w
    rw [hU] at this
    exact this
  have hc1 : Calls Tryz.prog 16 #[.int .i64 3, .int .i64 1, .slice (some ⟨w.heap.size, 0, none⟩) 2 2] U fun e w' => e = .returned (.tuple #[.int .i64 1, .int .i64 220]) ∧ Below U.heap.size U w' := by
    have := check_any 3 1 (some ⟨w.heap.size, 0, none⟩) 2 l2 U hr (by decide)
    rw [ck_l2] at this
    exact this
  have hc2 : ∀ V, Calls Tryz.prog 16 #[.int .i64 3, .int .i64 1, .slice none 0 0] V fun e w' => e = .returned (.tuple #[.int .i64 0, .int .i64 0]) ∧ Below V.heap.size V w' := fun V => by
    have := check_any 3 1 none 0 [] V ⟨fun e => absurd rfl e, fun x hx => by simp at hx⟩ (by decide)
    rw [ck_nil] at this
    exact this
  clear hU hr
  go_enter Tryz.func4, Tryz.ntmps4
  go_wp2_with (first | (refine wpList_bsl2 rfl 22 (.tmp 6) (.tmp 7) rfl (.agg (zC 1 0 1 1)) (.agg (zC 2 0 2 1)) _ rfl rfl HBS.out ?_) | (go_at_call 16; (with_reducible refine hc1.mono ?_); rintro e u1 ⟨rfl, hb1⟩) | (go_at_call 16; (with_reducible refine (hc2 _).mono ?_); rintro e u2 ⟨rfl, hb2⟩))
  go_ret
  exact ⟨rfl, (bU.trans (hb1.mono bU.size)).trans (hb2.mono (Nat.le_trans bU.size hb1.size))⟩
end Go.Proofs.YtgnhainfcfcodaaGreat
