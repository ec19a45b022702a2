import Derived.Test.YtifcnnonnocmmaaJnJ21
import Derived.Maps.AppendAt
import Derived.OwnWalk
import Derived.Laws.OwnMore
import Derived.Test.YtifcnnonnocmmaaJnJ20
import Derived.Test.YtifcnnonnocmmaaJnJ4
import Derived.Test.YtifcnnonnocmmaaRows
import Derived.ProofKit
import Derived.OpenShut
import Derived.ChangeOld
import Derived.ChangeSlices
import Derived.Below
import Derived.Deep.Slices
import Derived.Deep.Strs
set_option maxHeartbeats 40000000
set_option maxRecDepth 100000
set_option linter.unusedVariables false
namespace Go.Proofs.Ytifcnnonnocmmaa
open Go.RowKit Go.Shelf Go.Lib
attribute [local go_sem] Oper.semAt_some
structure JS2 (w : World) (b off c of : Nat) (l : List Ev) (V : World) : Prop where
 r1 : ∀ (k : Nat) (x : Ev), l[k]? = some x → ∀ (i : Nat) (v : Value), (ecA x)[i]? = some v → V.cell? ⟨b, off + k * 15 + i, none⟩ = some v
 r2 : ∀ (k : Nat) (x : Ev), l[k]? = some x → ∀ (i : Nat) (v : Value), (ecA x)[i]? = some v → V.cell? ⟨c, of + k * 15 + i, none⟩ = some v
 bl : Below w.heap.size w V
theorem sameE_any (ad ad2 : Option Addr) (cap cap2 : Nat) (l : List Ev) (w : World) (h : RdE w ad l) (h2 : RdE w ad2 l) (hl : l.length ≤ 1000000) : Calls Try.prog 13 #[.slice ad l.length cap, .slice ad2 l.length cap2] w fun e w' => e = .returned (.bool true) ∧ Below w.heap.size w w' := by
 have hmx : Try.prog.follows .mixedOrders = true := by kernel_rfl
 have H1 : Hid (RdE w ad l) := h
 have H2 : Hid (RdE w ad2 l) := h2
 clear h h2
 go_enter Try.func13, Try.ntmps13
 go_wp2
 go_loopw [5] (fun i wz => ∃ (k : Nat), i = .int .i64 (k : Int) ∧ k ≤ l.length ∧ Below w.heap.size w wz) (fun i _ => l.length - vnA i)
 case atStart => exact ⟨0, rfl, Nat.zero_le _, Below.refl _ _⟩
 case round =>
  obtain ⟨k, rfl, hk, hbw⟩ := hrel
  by_cases hkl : k < l.length
  · have hne : l ≠ [] := fun e => by subst e; simp at hkl
    obtain ⟨bA, off, e1, hbl, hat⟩ := H1.out.at' hne
    obtain ⟨cA, of, e2, hcl, hat2⟩ := H2.out.at' hne
    subst e1 e2
    have hj : JS2 w bA off cA of l wr := ⟨fun k x hx i v hv => (hbw.cell (p := ⟨bA, _, none⟩) hbl).trans (hat k x hx i v hv), fun k x hx i v hv => (hbw.cell (p := ⟨cA, _, none⟩) hcl).trans (hat2 k x hx i v hv), hbw⟩
    obtain ⟨x, hx⟩ : ∃ x, l[k]? = some x := ⟨_, List.getElem?_eq_getElem hkl⟩
    obtain ⟨hxe, hxu, _⟩ := H1.out.ok x (List.mem_of_getElem? hx)
    have hki : (k : Int) < (l.length : Int) := by omega
    clear hat hat2
    go_wp2
    refine wp_region_any hmx ?_
    refine zwp (fun i__ => ([(.slice (some ⟨bA, off, none⟩) l.length cap), (.int .i64 (k : Int)), (.pointer (some ⟨bA, off + k * 15, none⟩)), (evV x), (.slice (some ⟨cA, of, none⟩) l.length cap2), (.int .i64 (k : Int)), (.pointer (some ⟨cA, of + k * 15, none⟩)), (evV x), (.bool true), (.bool false)] : List Value).getD i__ undef) (fun W => JS2 w bA off cA of l W) (by kernel_rfl) ⟨fun k x hx i v hv => hj.r1 k x hx i v hv, fun k x hx i v hv => hj.r2 k x hx i v hv, hj.bl.drew⟩ ?_ ?_
    · refine (sqc ?_ (sqc ?_ (sqc ?_ (sqc ?_ (sqc ?_ (sqc ?_ (sqc ?_ (sqc ?_ (sqc ?_ (sqc ?_ trivial))))))))))
      · exact zmv rfl trivial _ rfl (by kernel_rfl)
      · exact zmv rfl trivial _ rfl (by kernel_rfl)
      · exact zia rfl trivial _ _ _ _ _ rfl rfl rfl (fun w hw => idx_e bA off l.length cap k hkl w)
      · exact zld rfl trivial _ _ _ rfl rfl (fun w hw => load_ev (fun i v hv => hw.r1 k x hx i v hv))
      · exact zmv rfl trivial _ rfl (by kernel_rfl)
      · exact zmv rfl trivial _ rfl (by kernel_rfl)
      · exact zia rfl trivial _ _ _ _ _ rfl rfl rfl (fun w hw => idx_e cA of l.length cap2 k hkl w)
      · exact zld rfl trivial _ _ _ rfl rfl (fun w hw => load_ev (fun i v hv => hw.r2 k x hx i v hv))
      · exact zbo rfl trivial _ _ _ _ _ _ _ rfl rfl rfl (fun w hw => (eqE _ _ x x hxe hxu hxe hxu w).trans (congrArg (fun z => Result.ok (Value.bool z) w) ((eqEv_iff x x).2 rfl)))
      · exact step_unOp rfl trivial _ _ _ _ rfl rfl (fun w hw => rfl)
    intro W hW
    first | refine hK _ _ ?_ | refine (‹∀ (a : Act) (w : World), Code.wp Try.prog _ _ a w → _›) _ _ ?_ | skip
    simp only [finL, List.getD_cons_zero, List.getD_cons_succ, Nat.zero_add, Nat.reduceAdd, List.setIfInBounds_toArray, List.set_cons_zero, List.set_cons_succ]
    go_wp2
    go_roundw
    case rel => exact ⟨k + 1, by simp, by omega, hW.bl⟩
    case measure => simp [vnA]; omega
  · have hkk : k = l.length := by omega
    subst hkk
    go_wp2
    go_ret
    exact ⟨rfl, hbw⟩
def mkE : List Ev := [⟨0, -77, 0, 0, 0, 0, 0, 0, 0⟩, ⟨0, -78, 0, 0, 0, 0, 0, 0, 0⟩]
def zC (k nd li ro : Int) : Array Value := #[.int .i64 k, .int .i64 nd, .int .i64 li, .int .i64 ro, .int .i64 0, .int .i64 0, .int .i64 0, .int .u32 0, .int .u32 0, .int .u32 0, .int .u32 0, .int .u32 0, .int .u32 0, .int .u32 0, .int .u32 0]
theorem zC_ec (k nd li ro : Int) : zC k nd li ro = ecA ⟨k, nd, li, ro, 0, 0, 0, 0, 0⟩ := by simp [zC, ecA, wdz]
theorem bs_E (k0 n0 l0 r0 k1 n1 l1 r1 : Int) (w : World) : (Instr.buildSlice 22 2 #[(0, .agg (zC k0 n0 l0 r0)), (1, .agg (zC k1 n1 l1 r1))]).run Try.prog w = .ok (.slice (some ⟨w.heap.size, 0, none⟩) 2 2) (w.alloc (.cells (zC k0 n0 l0 r0 ++ zC k1 n1 l1 r1) 34)) := by
 unfold zC
 kernel_rfl
theorem infoE : ∃ i, Try.prog.info? 34 = some i ∧ i.zero = some (.agg (zC 0 0 0 0)) ∧ i.size = 15 ∧ i.bytes = 88 := by
 have h : (Try.prog.info? 34).map (fun i => (i.zero, i.size, i.bytes)) = some (some (.agg (zC 0 0 0 0)), 15, 88) := by kernel_rfl
 cases hq : Try.prog.info? 34 with
 | none => rw [hq] at h; simp at h
 | some i =>
  rw [hq] at h
  simp at h
  exact ⟨i, rfl, h.1, h.2.1, h.2.2⟩
theorem wpList_bsl2 {P : Program} {ops : Array Oper} {rest : List Oper} {o : Oper} {a : Act} {w w' : World} {Q : Exit → Act → World → Prop} (hgd : o.guard = none) (t : TypeId) (x0 x1 : Operand) (ho : o.op = .buildSlice t 2 #[(0, x0), (1, x1)]) (v0 v1 v : Value) (h0 : a.eval x0 = v0) (h1 : a.eval x1 = v1) (hr : (Instr.buildSlice t 2 #[(0, v0), (1, v1)]).run P w = .ok v w')
  (h : wpList P ops Q rest (a.put o.dst v) w') : wpList P ops Q (o :: rest) a w :=
 wpList_plain hgd fun K hK => by
  unfold Oper.wp execOp
  simp only [ho, h0, h1, List.map_toArray, List.map_cons, List.map_nil, Sem.run_bind, hr, Result.andThen_ok, Sem.run_pure, Oper.upon_value]
  exact hK _ _ h
def l2 : List Ev := [⟨1, 0, 1, 1, 0, 0, 0, 0, 0⟩, ⟨2, 0, 2, 1, 0, 0, 0, 0, 0⟩]
theorem ck_l2 : ckO 3 1 l2 = (1, 220) := by decide +kernel
theorem ck_nil : ckO 3 1 [] = (0, 0) := by decide +kernel
theorem ecs_get {l : List Ev} {k : Nat} {x : Ev} (hk : l[k]? = some x) {i : Nat} {v : Value} (hv : (ecA x)[i]? = some v) : (ecs l)[k * 15 + i]? = some v := by
 have hi : i < 15 := by
  have := (Array.getElem?_eq_some_iff.1 hv).1
  simpa [ecA] using this
 rw [show ecs l = l.flatMap ec from rfl, fm_get ec 15 ec_len l k i x hk hi, ← hv]
 simp [ec]
theorem rdE_own {W : World} {base g n cap : Nat} {l : List Ev} (h : W.ownsRow base 34 15 (.slice (some ⟨g, 0, none⟩) n cap) n (ecs l)) (hn : n = l.length) : ∀ (k : Nat) (x : Ev), l[k]? = some x → ∀ (i : Nat) (v : Value), (ecA x)[i]? = some v → W.cell? ⟨g, 0 + k * 15 + i, none⟩ = some v := by
 intro k x hk i v hv
 have hlt : k < l.length := (List.getElem?_eq_some_iff.1 hk).1
 have hi : i < 15 := by
  have := (Array.getElem?_eq_some_iff.1 hv).1
  simpa [ecA] using this
 rw [Nat.zero_add]
 exact (h.cellAt _ (by omega)).trans (ecs_get hk hv)
theorem two_rd (e1 e2 : Ev) (W : World) (cs : Array Value) (hcs : cs = ecA e1 ++ ecA e2) (h1 : e1.he < S128 ∧ e1.un < S128 ∧ (Lit.int .i64 e1.k).wf = true) (h2 : e2.he < S128 ∧ e2.un < S128 ∧ (Lit.int .i64 e2.k).wf = true) : RdE (W.alloc (.cells cs 34)) (some ⟨W.heap.size, 0, none⟩) [e1, e2] := by
 have hg : (W.alloc (.cells cs 34)).heap[W.heap.size]? = some (.cells cs 34 (0, 0)) := zna rfl
 refine ⟨fun _ => ⟨W.heap.size, 0, rfl, zla hg, fun k x hx i v hv => ?_⟩, fun x hx => ?_⟩
 · rw [zca hg, hcs]
   have := ecs_get hx hv
   rw [show ecs [e1, e2] = (ecA e1 ++ ecA e2).toList by simp [ecs, ec], Array.getElem?_toList] at this
   rw [Nat.zero_add]
   exact this
 · simp only [List.mem_cons, List.not_mem_nil, or_false] at hx
   rcases hx with rfl | rfl
   · exact h1
   · exact h2
theorem alive_any (w : World) : Calls Try.prog 4 #[] w fun e w' => e = .returned (.bool true) ∧ Below w.heap.size w w' := by
 have hr := two_rd ⟨1, 0, 1, 1, 0, 0, 0, 0, 0⟩ ⟨2, 0, 2, 1, 0, 0, 0, 0, 0⟩ w (zC 1 0 1 1 ++ zC 2 0 2 1) (by rw [zC_ec, zC_ec]) (by decide) (by decide)
 obtain ⟨U, hU⟩ : ∃ V, w.alloc (.cells (zC 1 0 1 1 ++ zC 2 0 2 1) 34) = V := ⟨_, rfl⟩
 rw [hU] at hr
 have bU : Below w.heap.size w U := by rw [← hU]; exact al1' _ _
 have HBS : Hid ((Instr.buildSlice 22 2 #[(0, .agg (zC 1 0 1 1)), (1, .agg (zC 2 0 2 1))]).run Try.prog w = .ok (.slice (some ⟨w.heap.size, 0, none⟩) 2 2) U) := by
  have := bs_E 1 0 1 1 2 0 2 1 w
  rw [hU] at this
  exact this
 have hc1 : Calls Try.prog 6 #[.int .i64 3, .int .i64 1, .slice (some ⟨w.heap.size, 0, none⟩) 2 2] U fun e w' => e = .returned (.tuple #[.int .i64 1, .int .i64 220]) ∧ Below U.heap.size U w' := by
  have := check_any 3 1 (some ⟨w.heap.size, 0, none⟩) 2 l2 U hr (by decide)
  rw [ck_l2] at this
  exact this
 have hc2 : ∀ V, Calls Try.prog 6 #[.int .i64 3, .int .i64 1, .slice none 0 0] V fun e w' => e = .returned (.tuple #[.int .i64 0, .int .i64 0]) ∧ Below V.heap.size V w' := fun V => by
  have := check_any 3 1 none 0 [] V ⟨fun e => absurd rfl e, fun x hx => by simp at hx⟩ (by decide)
  rw [ck_nil] at this
  exact this
 clear hU hr
 go_enter Try.func4, Try.ntmps4
 go_wp2_with (first | (refine wpList_bsl2 rfl 22 (.tmp 6) (.tmp 7) rfl (.agg (zC 1 0 1 1)) (.agg (zC 2 0 2 1)) _ rfl rfl HBS.out ?_) | (go_at_call 6; (with_reducible refine hc1.mono ?_); rintro e u1 ⟨rfl, hb1⟩) | (go_at_call 6; (with_reducible refine (hc2 _).mono ?_); rintro e u2 ⟨rfl, hb2⟩))
 go_ret
 exact ⟨rfl, (bU.trans (hb1.mono bU.size)).trans (hb2.mono (Nat.le_trans bU.size hb1.size))⟩
end Go.Proofs.Ytifcnnonnocmmaa
namespace Go.Proofs.Ytifcnnonnocmmaa
open Go.RowKit Go.Shelf Go.Lib
attribute [local go_sem] Oper.semAt_some
theorem own_formE {w : World} {base : Nat} {e : TypeId} {size : Nat} {v : Value} {n : Nat} {xs : List Value} (h : w.ownsRow base e size v n xs) : (v = .slice none 0 0 ∧ n = 0) ∨ ∃ g cap, v = .slice (some ⟨g, 0, none⟩) n cap ∧ base ≤ g ∧ g < w.heap.size ∧ n ≤ cap := by
 rcases h.2 with ⟨rfl, rfl⟩ | ⟨g, cap, cur, rfl, h4, h5, h6, _⟩
 · exact .inl ⟨rfl, rfl⟩
 · exact .inr ⟨g, cap, rfl, h4, zla h5, h6⟩
theorem own_blockE {w : World} {base : Nat} {e : TypeId} {size : Nat} {v : Value} {n : Nat} {xs : List Value} (h : w.ownsRow base e size v n xs) : ∀ g, v.ownBlock = some g → base ≤ g := by
 intro g hg
 rcases h.2 with ⟨rfl, _⟩ | ⟨g', cap, cur, rfl, h4, h5, _⟩
 · simp [Value.ownBlock] at hg
 · simp [Value.ownBlock] at hg
   omega
theorem rowE (W : World) (cs : Array Value) (t : TypeId) : ∀ j u, cs.toList[j]? = some u → (W.alloc (.cells cs t)).cell? ((⟨W.heap.size, 0, none⟩ : Addr).add j) = some u := by
 intro j u h
 have hg : (W.alloc (.cells cs t)).heap[W.heap.size]? = some (.cells cs t) := zna rfl
 rw [add_pl, Nat.zero_add, zca hg j, ← h]
 simp
theorem mkE_ecs : (zC 0 (-77) 0 0 ++ zC 0 (-78) 0 0).toList = ecs mkE := by simp [zC_ec, ecs, mkE, ec]
theorem zC_size : (Value.agg (zC 0 0 0 0)).cells.size = 15 := rfl
theorem rdE_src {W : World} {bb oo : Nat} {l : List Ev} (h : ∀ (k : Nat) (x : Ev), l[k]? = some x → ∀ (i : Nat) (v : Value), (ecA x)[i]? = some v → W.cell? ⟨bb, oo + k * 15 + i, none⟩ = some v) : ∀ j u, (ecs l)[j]? = some u → W.cell? ((⟨bb, oo, none⟩ : Addr).add j) = some u := by
 intro j u hj
 have hjl : j < l.length * 15 := by rw [← ecs_len]; exact (List.getElem?_eq_some_iff.1 hj).1
 obtain ⟨x, hx⟩ : ∃ x, l[j / 15]? = some x := ⟨_, List.getElem?_eq_getElem (by omega)⟩
 have hm : j % 15 < 15 := Nat.mod_lt _ (by decide)
 have hg := fm_get ec 15 ec_len l (j / 15) (j % 15) x hx hm
 rw [show j / 15 * 15 + j % 15 = j by omega, show l.flatMap ec = ecs l from rfl, hj] at hg
 have := h (j / 15) x hx (j % 15) u (by rw [← Array.getElem?_toList]; exact hg.symm)
 rw [add_pl, ← this]
 congr 2
 omega
def LeO (w : World) (l : List Ev) (e : Ending) (w' : World) : Prop := ∃ g cap, e = .returned (.slice (some ⟨g, 0, none⟩) l.length cap) ∧ l.length + 2 ≤ cap ∧ g < w'.heap.size ∧ w.heap.size ≤ g ∧ (∀ (k : Nat) (x : Ev), (l ++ mkE)[k]? = some x → ∀ (i : Nat) (v : Value), (ecA x)[i]? = some v → w'.cell? ⟨g, 0 + k * 15 + i, none⟩ = some v) ∧ Below w.heap.size w w'
theorem lent_any (ad : Option Addr) (cap : Nat) (l : List Ev) (w : World) (h : RdE w ad l) (hcap : ad = none → cap = 0) (hl : l.length ≤ 5000) : Calls Try.prog 5 #[.slice ad l.length cap] w (LeO w l) := by
 obtain ⟨ic, hic, hz0, hz1, hz2⟩ := infoE
 have hnil := World.ownsRow_nil w w.heap.size 34 15
 have hln : (ecs mkE).length = 2 * 15 := by rw [ecs_len]; rfl
 cases ad with
 | none =>
  have hl0 : l = [] := by
   cases l with
   | nil => rfl
   | cons x r => obtain ⟨b, off, e, _⟩ := h.at' (by simp); cases e
  subst hl0
  obtain rfl := hcap rfl
  have hap := run_append_owned_none (P := Try.prog) w w.heap.size 22 22 34 ic 15 Try.underlying22 hic _ _ _ hnil
  have HBS : Hid ((Instr.buildSlice 22 2 #[(0, .agg (zC 0 (-77) 0 0)), (1, .agg (zC 0 (-78) 0 0))]).run Try.prog w = .ok (.slice (some ⟨w.heap.size, 0, none⟩) 2 2) (w.alloc (.cells (zC 0 (-77) 0 0 ++ zC 0 (-78) 0 0) 34))) := bs_E _ _ _ _ _ _ _ _ w
  have hsrc := rowE w (zC 0 (-77) 0 0 ++ zC 0 (-78) 0 0) 34
  rw [mkE_ecs] at hsrc
  go_enter Try.func5, Try.ntmps5
  go_wp2_with (first | (refine wpList_bsl2 rfl 22 (.tmp 7) (.tmp 8) rfl (.agg (zC 0 (-77) 0 0)) (.agg (zC 0 (-78) 0 0)) _ rfl rfl HBS.out ?_) | (at_builtin; refine wpList_append_own _ rfl _ _ 22 rfl w.heap.size 34 ic _ 15 88 Try.underlying22 hic hz0 hz1 hz2 zC_size (by decide) _ 0 [] rfl (hnil.alloc _) ⟨w.heap.size, 0, none⟩ 2 2 (ecs mkE) rfl hln hsrc (ecs_ones _) (by unfold maxLen; omega) (by omega) (by simp) ?_; intro v u ho hgu _; rcases own_formE ho with ⟨_, e⟩ | ⟨g, cp, rfl, hg0, hg1, hcp⟩; · omega))
  go_ret
  have hb0 := al1' w (.cells (zC 0 (-77) 0 0 ++ zC 0 (-78) 0 0) 34)
  exact ⟨g, cp, rfl, by simpa using hcp, hg1, hg0, rdE_own (l := [] ++ mkE) ho rfl, hb0.grown hgu hb0.size (fun q e => own_blockE (hnil.alloc (.cells (zC 0 (-77) 0 0 ++ zC 0 (-78) 0 0) 34)) q e)⟩
 | some a =>
  have hnews : ∀ j u, (ecs l)[j]? = some u → w.cell? (a.add j) = some u := by
   intro j u hj
   obtain ⟨b, off, e, _, hat⟩ := h.at' (fun e => by subst e; simp [ecs] at hj)
   obtain rfl := Option.some.inj e
   exact rdE_src hat j u hj
  have hfl : (ecs l).length = l.length * 15 := ecs_len l
  have HBS := fun (W : World) => bs_E 0 (-77) 0 0 0 (-78) 0 0 W
  have HB1 : Hid (∀ W : World, (Instr.buildSlice 22 2 #[(0, .agg (zC 0 (-77) 0 0)), (1, .agg (zC 0 (-78) 0 0))]).run Try.prog W = .ok (.slice (some ⟨W.heap.size, 0, none⟩) 2 2) (W.alloc (.cells (zC 0 (-77) 0 0 ++ zC 0 (-78) 0 0) 34))) := HBS
  clear h hcap HBS
  go_enter Try.func5, Try.ntmps5
  go_wp2_with (first | (refine wpList_bsl2 rfl 22 (.tmp 7) (.tmp 8) rfl (.agg (zC 0 (-77) 0 0)) (.agg (zC 0 (-78) 0 0)) _ rfl rfl (HB1.out _) ?_) | (at_builtin; refine wpList_append_own _ rfl _ _ 22 rfl w.heap.size 34 ic _ 15 88 Try.underlying22 hic hz0 hz1 hz2 zC_size (by decide) _ 0 [] rfl hnil a l.length cap (ecs l) rfl hfl hnews (ecs_ones l) (by unfold maxLen; omega) (by omega) (Nat.le_refl _) ?_; intro v u ho0 hgu _; have hbu : Below w.heap.size w u := (Below.refl w.heap.size w).grown hgu (Nat.le_refl _) (fun q e => own_blockE hnil q e); have ho1 : u.ownsRow w.heap.size 34 15 v l.length (ecs l) := (by simpa using ho0); have hsrc := rowE u (zC 0 (-77) 0 0 ++ zC 0 (-78) 0 0) 34; rw [mkE_ecs] at hsrc; clear ho0) | (at_builtin; refine wpList_append_own _ rfl _ _ 22 rfl w.heap.size 34 ic _ 15 88 Try.underlying22 hic hz0 hz1 hz2 zC_size (by decide) v l.length (ecs l) rfl (ho1.alloc _) ⟨u.heap.size, 0, none⟩ 2 2 (ecs mkE) rfl hln hsrc (ecs_ones _) (by unfold maxLen; omega) (by omega) (Nat.le_trans hbu.size (by simp)) ?_; intro v2 u2 ho hgu2 _; obtain ⟨g, cp, rfl, hg0, hg1, hcp⟩ := (own_formE ho).resolve_left (fun q => by have := q.2; omega); have q1 : (l.length : Int) ≤ ((l.length + 2 : Nat) : Int) := (by omega); have q2 : (l.length : Int) ≤ (cp : Int) := (by omega)))
  go_ret
  have hb0 := hbu.alloc hbu.size (.cells (zC 0 (-77) 0 0 ++ zC 0 (-78) 0 0) 34)
  exact ⟨g, cp, rfl, hcp, hg1, hg0, rdE_own (l := l ++ mkE) (by rw [ecs_append]; exact ho) (by simp [mkE]), hb0.grown hgu2 hb0.size (fun q e => own_blockE (ho1.alloc (.cells (zC 0 (-77) 0 0 ++ zC 0 (-78) 0 0) 34)) q e)⟩
theorem stays_any (g : Nat) (ad2 : Option Addr) (cap cap2 : Nat) (l : List Ev) (w : World) (hg : g < w.heap.size) (h : ∀ (k : Nat) (x : Ev), (l ++ mkE)[k]? = some x → ∀ (i : Nat) (v : Value), (ecA x)[i]? = some v → w.cell? ⟨g, 0 + k * 15 + i, none⟩ = some v) (hc : l.length + 2 ≤ cap) (h2 : RdE w ad2 l) (hl : l.length ≤ 5000) : Calls Try.prog 8 #[.slice (some ⟨g, 0, none⟩) l.length cap, .slice ad2 l.length cap2] w fun e w' => e = .returned (.bool true) ∧ Below w.heap.size w w' := by
 have hsm := sameE_any (some ⟨g, 0, none⟩) ad2 cap cap2 l w ⟨fun _ => ⟨g, 0, rfl, hg, fun k x hk => h k x (by rw [List.getElem?_append_left (List.getElem?_eq_some_iff.1 hk).1]; exact hk)⟩, h2.ok⟩ h2 (by omega)
 have hci : (l.length : Int) + 2 ≤ (cap : Int) := by omega
 have h3 : (l.length : Int) < (l.length : Int) + 2 := by omega
 have h4 : (l.length : Int) + 1 < (l.length : Int) + 2 := by omega
 have HM : ∀ V, Below w.heap.size w V → V.cell? ⟨g, l.length * 15 + 1, none⟩ = some (.int .i64 (-77)) ∧ V.cell? ⟨g, (l.length + 1) * 15 + 1, none⟩ = some (.int .i64 (-78)) := fun V hb => by
  have e1 := h l.length ⟨0, -77, 0, 0, 0, 0, 0, 0, 0⟩ (by simp [mkE]) 1 (.int .i64 (-77)) rfl
  have e2 := h (l.length + 1) ⟨0, -78, 0, 0, 0, 0, 0, 0, 0⟩ (by simp [mkE]) 1 (.int .i64 (-78)) rfl
  rw [Nat.zero_add] at e1 e2
  exact ⟨(hb.cell (p := ⟨g, _, none⟩) hg).trans e1, (hb.cell (p := ⟨g, _, none⟩) hg).trans e2⟩
 clear h h2
 go_enter Try.func8, Try.ntmps8
 go_wp2_with (go_at_call 13; (with_reducible refine hsm.mono ?_); rintro e u1 ⟨rfl, hb1⟩; obtain ⟨m1, m2⟩ := HM u1 hb1)
 go_ret
 exact ⟨rfl, hb1⟩
end Go.Proofs.Ytifcnnonnocmmaa
namespace Go.Proofs.Ytifcnnonnocmmaa
open Go.ChangeShapes Go.WideShapes Go.ChangeAt Go.RowKit
instance : Inhabited Ev := ⟨e0⟩
theorem cellsEv : Try.prog.cellsOf 34 = 15 := by kernel_rfl
theorem cellsIv : Try.prog.cellsOf 3 = 1 := by kernel_rfl
theorem cellsSv : Try.prog.cellsOf 32 = 4 := by kernel_rfl
theorem cell_ltE {W : World} {a : Addr} {v : Value} (h : W.cell? a = some v) : a.block < W.heap.size := by
 unfold World.cell? at h
 cases hb : W.heap[a.block]? with
 | none => simp [hb] at h
 | some o => exact (Array.getElem?_eq_some_iff.1 hb).1
theorem set_of_trod {H : Type} {enc : TypeId × Value → H} {W : World} {n : Nat} {c0 c1 c2 c3 : Value} {x : DataW H × List MemPlace} (h : DataW.trod enc Try.prog W 0 (fun _ => true) true n 32 [c0, c1, c2, c3] = some x) : ∃ N : Nat, [c0, c1, c2, c3] = [.int .u32 (wd N 0 : Nat), .int .u32 (wd N 1 : Nat), .int .u32 (wd N 2 : Nat), .int .u32 (wd N 3 : Nat)] ∧ N < S128 := by
 obtain ⟨z0, z1, z2, z3, m2, hx, hy0, hy1, hy2, hy3⟩ := trod_array4 Try.underlying32 cellsW h
 obtain ⟨u0, f0, _, v0⟩ := DataW.trod_int Try.underlying30 hy0
 obtain ⟨u1, f1, _, v1⟩ := DataW.trod_int Try.underlying30 hy1
 obtain ⟨u2, f2, _, v2⟩ := DataW.trod_int Try.underlying30 hy2
 obtain ⟨u3, f3, _, v3⟩ := DataW.trod_int Try.underlying30 hy3
 simp at f0 f1 f2 f3
 subst f0 f1 f2 f3
 obtain ⟨n0, rfl, b0⟩ := nat_of_u32 v0
 obtain ⟨n1, rfl, b1⟩ := nat_of_u32 v1
 obtain ⟨n2, rfl, b2⟩ := nat_of_u32 v2
 obtain ⟨n3, rfl, b3⟩ := nat_of_u32 v3
 refine ⟨joinW n0 n1 n2 n3, ?_, join_lt _ _ _ _ b0 b1 b2 b3⟩
 rw [wd_join0 _ _ _ _ b0, wd_join1 _ _ _ _ b0 b1, wd_join2 _ _ _ _ b0 b1 b2, wd_join3 _ _ _ _ b0 b1 b2 b3]
theorem one_Ev {H : Type} {enc : TypeId × Value → H} {W : World} {n : Nat} {cs : List Value} {x : DataW H × List MemPlace} (hl : cs.length = 15) (h : DataW.trod enc Try.prog W 0 (fun _ => true) true n 34 cs = some x) : ∃ e : Ev, cs = (ecA e).toList ∧ e.he < S128 ∧ e.un < S128 ∧ (Lit.int .i64 e.k).wf = true := by
 obtain ⟨xs, m, _, _, _, hlen, hfs⟩ := DataW.trod_struct Try.underlying34 h
 match xs, hlen, cs, hl with
 | [y0, y1, y2, y3, y4, y5, y6, y7, y8], _, [c0, c1, c2, c3, c4, c5, c6, c7, c8, c9, c10, c11, c12, c13, c14], _ =>
  have g0 := hfs 0 _ rfl
  have g1 := hfs 1 _ rfl
  have g2 := hfs 2 _ rfl
  have g3 := hfs 3 _ rfl
  have g4 := hfs 4 _ rfl
  have g5 := hfs 5 _ rfl
  have g6 := hfs 6 _ rfl
  have g7 := hfs 7 _ rfl
  have g8 := hfs 8 _ rfl
  simp [cellsIv, cellsSv] at g0 g1 g2 g3 g4 g5 g6 g7 g8
  obtain ⟨x0, e0, _, w0⟩ := DataW.trod_int Try.underlying3 g0
  obtain ⟨x1, e1, _, _⟩ := DataW.trod_int Try.underlying3 g1
  obtain ⟨x2, e2, _, _⟩ := DataW.trod_int Try.underlying3 g2
  obtain ⟨x3, e3, _, _⟩ := DataW.trod_int Try.underlying3 g3
  obtain ⟨x4, e4, _, _⟩ := DataW.trod_int Try.underlying3 g4
  obtain ⟨x5, e5, _, _⟩ := DataW.trod_int Try.underlying3 g5
  obtain ⟨x6, e6, _, _⟩ := DataW.trod_int Try.underlying3 g6
  simp at e0 e1 e2 e3 e4 e5 e6
  subst e0 e1 e2 e3 e4 e5 e6
  obtain ⟨N, e7, hN⟩ := set_of_trod g7
  obtain ⟨M, e8, hM⟩ := set_of_trod g8
  simp only [List.cons.injEq, and_true] at e7 e8
  obtain ⟨rfl, rfl, rfl, rfl⟩ := e7
  obtain ⟨rfl, rfl, rfl, rfl⟩ := e8
  exact ⟨⟨x0, x1, x2, x3, x4, x5, x6, N, M⟩, rfl, hN, hM, w0⟩
theorem open_events {H : Type} {enc : TypeId × Value → H} {W : World} {base : Nat} {v : Value} {d : DataW H} {p : List MemPlace} (hval : Value.okWide Try.prog W .any base 22 v)
   (h : DataW.Trod enc Try.prog W 0 (fun _ => true) true 22 v d p) : ∃ (ad : Option Addr) (cap : Nat) (l : List Ev), v = .slice ad l.length cap ∧ RdE W ad l ∧ (ad = none → cap = 0) ∧ l.length ≤ cap ∧ cap ≤ maxLen := by
 obtain ⟨a0, len0, cap0, rfl⟩ := okWide_slice Try.underlying22 hval
 obtain ⟨fuel, hf⟩ := h
 rcases Deep.open_slice Try.underlying22 hf with ⟨hcs, _⟩ | ⟨a, len, cap, m, n, D, Pl, hcs, _, hlc, hcm, hmm, hx, hel⟩
 · simp [Value.cells] at hcs
   obtain ⟨rfl, rfl, rfl⟩ := hcs
   exact ⟨none, 0, [], rfl, ⟨fun h => absurd rfl h, fun N h => by simp at h⟩, fun _ => rfl, Nat.le_refl _, by unfold maxLen; simp⟩
 · simp [Value.cells] at hcs
   obtain ⟨rfl, rfl, rfl⟩ := hcs
   have hm : m = cap0 := by simpa using hmm
   have each : ∀ i, i < len0 → ∃ e : Ev, (∀ (j : Nat) (v : Value), (ecA e)[j]? = some v → W.cell? (a.add (i * 15 + j)) = some v) ∧ (e.he < S128 ∧ e.un < S128 ∧ (Lit.int .i64 e.k).wf = true) := by
     intro i hi
     obtain ⟨cs, h1, h2⟩ := hel i (by omega)
     rw [cellsEv] at h1
     obtain ⟨_, hlen, hcell⟩ := World.cells?_some h1
     obtain ⟨e, rfl, hok⟩ := one_Ev hlen h2
     refine ⟨e, fun j v hv => ?_, hok⟩
     have hj : j < 15 := by
      have := (Array.getElem?_eq_some_iff.1 hv).1
      simpa [ecA] using this
     have e0 := hcell j (by omega)
     rw [Deep.add_add] at e0
     rw [e0]
     rw [← Array.getElem?_toList] at hv
     obtain ⟨_, hv2⟩ := List.getElem?_eq_some_iff.1 hv
     simp [hv]
   obtain ⟨q, hq⟩ := Deep.choose_lt each
   have hget : ∀ k y, ((List.range len0).map q)[k]? = some y → k < len0 ∧ y = q k := fun k y hy => by
     rw [List.getElem?_map] at hy
     obtain ⟨k', hk', rfl⟩ := Option.map_eq_some_iff.1 hy
     have hk := (List.getElem?_eq_some_iff.1 hk').1
     simp at hk
     rw [List.getElem?_range hk] at hk'
     cases hk'
     exact ⟨hk, rfl⟩
   refine ⟨some a, cap0, (List.range len0).map q, by simp, ⟨fun hne => ?_, fun e he => ?_⟩, fun e => (by cases e), by simpa using hlc, hcm⟩
   · have h0 : 0 < len0 := by
      rcases Nat.eq_zero_or_pos len0 with e | e
      · subst e; simp at hne
      · exact e
     have c00 := (hq 0 h0).1 0 _ rfl
     obtain ⟨b', off', x'⟩ := a
     have hx' : x' = none := by simpa [Addr.add] using World.cell?_spot c00
     subst hx'
     have hadd : ∀ j, (⟨b', off', none⟩ : Addr).add j = ⟨b', off' + j, none⟩ := fun j => add_pl b' off' j
     have hlt := cell_ltE c00
     rw [hadd] at hlt
     refine ⟨b', off', rfl, hlt, fun k y hy i v hv => ?_⟩
     obtain ⟨hk, rfl⟩ := hget k y hy
     have := (hq k hk).1 i v hv
     rw [hadd] at this
     rw [Nat.add_assoc]
     exact this
   · obtain ⟨k, hk⟩ := List.getElem?_of_mem he
     obtain ⟨hk1, rfl⟩ := hget k e hk
     exact (hq k hk1).2
end Go.Proofs.Ytifcnnonnocmmaa
