/- lent and stays of events: what they answer. -/
import Derived.Test.YtgnhainfcfcodaaGreatAur
namespace Go.Proofs.YtgnhainfcfcodaaGreat
open Go.RowKit Go.Shelf Go.Lib
attribute [local go_sem] Oper.semAt_some

theorem own_formE {w : World} {base : Nat} {e : TypeId} {size : Nat} {v : Value} {n : Nat} {xs : List Value} (h : w.ownsRow base e size v n xs) : (v = .slice none 0 0 ∧ n = 0) ∨ ∃ g cap, v = .slice (some ⟨g, 0, none⟩) n cap ∧ base ≤ g ∧ g < w.heap.size ∧ n ≤ cap := by
  rcases h.2 with ⟨rfl, rfl⟩ | ⟨g, cap, cur, rfl, h4, h5, h6, _⟩
  · exact .inl ⟨rfl, rfl⟩
  · exact .inr ⟨g, cap, rfl, h4, lt_at h5, h6⟩
theorem own_blockE {w : World} {base : Nat} {e : TypeId} {size : Nat} {v : Value} {n : Nat} {xs : List Value} (h : w.ownsRow base e size v n xs) : ∀ g, v.ownBlock = some g → base ≤ g := by
  intro g hg
  rcases h.2 with ⟨rfl, _⟩ | ⟨g', cap, cur, rfl, h4, h5, _⟩
  · simp [Value.ownBlock] at hg
  · simp [Value.ownBlock] at hg
    omega
theorem rowE (W : World) (cs : Array Value) (t : TypeId) : ∀ j u, cs.toList[j]? = some u → (W.alloc (.cells cs t)).cell? ((⟨W.heap.size, 0, none⟩ : Addr).add j) = some u := by
  intro j u h
  have hg : (W.alloc (.cells cs t)).heap[W.heap.size]? = some (.cells cs t) := new_at rfl
  rw [add_pl, Nat.zero_add, cell_at hg j, ← h]
  simp
theorem mkE_ecs : (zC 0 (-77) 0 0 ++ zC 0 (-78) 0 0).toList = ecs mkE := by simp [zC_ec, ecs, mkE, ec]
theorem zC_size : (Value.agg (zC 0 0 0 0)).cells.size = 15 := rfl
theorem rdE_src {W : World} {bb oo : Nat} {l : List Ev} (h : ∀ (k : Nat) (x : Ev), l[k]? = some x → ∀ (i : Nat) (v : Value), (ecA x)[i]? = some v → W.cell? ⟨bb, oo + k * 15 + i, none⟩ = some v) : ∀ j u, (ecs l)[j]? = some u → W.cell? ((⟨bb, oo, none⟩ : Addr).add j) = some u := by
  intro j u hj
  have hjl : j < l.length * 15 := by rw [← ecs_len]; exact (List.getElem?_eq_some_iff.1 hj).1
  obtain ⟨x, hx⟩ : ∃ x, l[j / 15]? = some x := ⟨_, List.getElem?_eq_getElem (by omega)⟩
  have hm : j % 15 < 15 := Nat.mod_lt _ (by decide)
  have hg := fm_get ec 15 ec_len l (j / 15) (j % 15) x hx hm
  rw [show j / 15 * 15 + j % 15 = j by omega, show l.flatMap ec = ecs l from rfl, hj] at hg
  have := h (j / 15) x hx (j % 15) u (by rw [← Array.getElem?_toList]; exact hg.symm)
  rw [add_pl, ← this]
  congr 2
  omega
/-- What lent answers. -/
def LeO (w : World) (l : List Ev) (e : Ending) (w' : World) : Prop := ∃ g cap, e = .returned (.slice (some ⟨g, 0, none⟩) l.length cap) ∧ l.length + 2 ≤ cap ∧ g < w'.heap.size ∧ w.heap.size ≤ g ∧ (∀ (k : Nat) (x : Ev), (l ++ mkE)[k]? = some x → ∀ (i : Nat) (v : Value), (ecA x)[i]? = some v → w'.cell? ⟨g, 0 + k * 15 + i, none⟩ = some v) ∧ Below w.heap.size w w'
set_option maxHeartbeats 4000000 in
set_option maxRecDepth 100000 in
theorem lent_any (ad : Option Addr) (cap : Nat) (l : List Ev) (w : World) (h : RdE w ad l) (hcap : ad = none → cap = 0) (hl : l.length ≤ 5000) : Calls Tryz.prog 5 #[.slice ad l.length cap] w (LeO w l) := by
  obtain ⟨ic, hic, hz0, hz1, hz2⟩ := infoE
  have hnil := World.ownsRow_nil w w.heap.size 59 15
  have hln : (ecs mkE).length = 2 * 15 := by rw [ecs_len]; rfl
  cases ad with
  | none =>
    have hl0 : l = [] := by
      cases l with
      | nil => rfl
      | cons x r => obtain ⟨b, off, e, _⟩ := h.at' (by simp); cases e
    subst hl0
    obtain rfl := hcap rfl
    have hap := run_append_owned_none (P := Tryz.prog) w w.heap.size 22 22 59 ic 15 Tryz.underlying22 hic _ _ _ hnil
    have HBS : Hid ((Instr.buildSlice 22 2 #[(0, .agg (zC 0 (-77) 0 0)), (1, .agg (zC 0 (-78) 0 0))]).run Tryz.prog w = .ok (.slice (some ⟨w.heap.size, 0, none⟩) 2 2) (w.alloc (.cells (zC 0 (-77) 0 0 ++ zC 0 (-78) 0 0) 59))) := bs_E _ _ _ _ _ _ _ _ w
    have hsrc := rowE w (zC 0 (-77) 0 0 ++ zC 0 (-78) 0 0) 59
    rw [mkE_ecs] at hsrc
    go_enter Tryz.func5, Tryz.ntmps5
    go_wp2_with (first | (refine wpList_bsl2 rfl 22 (.tmp 7) (.tmp 8) rfl (.agg (zC 0 (-77) 0 0)) (.agg (zC 0 (-78) 0 0)) _ rfl rfl HBS.out ?_) | (at_builtin; refine wpList_append_own _ rfl _ _ 22 rfl w.heap.size 59 ic _ 15 88 Tryz.underlying22 hic hz0 hz1 hz2 zC_size (by decide) _ 0 [] rfl (hnil.alloc _) ⟨w.heap.size, 0, none⟩ 2 2 (ecs mkE) rfl hln hsrc (ecs_ones _) (by unfold maxLen; omega) (by omega) (by simp) ?_; intro v u ho hgu _; rcases own_formE ho with ⟨_, e⟩ | ⟨g, cp, rfl, hg0, hg1, hcp⟩; · omega))
    go_ret
    have hb0 := al1' w (.cells (zC 0 (-77) 0 0 ++ zC 0 (-78) 0 0) 59)
    exact ⟨g, cp, rfl, by simpa using hcp, hg1, hg0, rdE_own (l := [] ++ mkE) ho rfl, hb0.grown hgu hb0.size (fun q e => own_blockE (hnil.alloc (.cells (zC 0 (-77) 0 0 ++ zC 0 (-78) 0 0) 59)) q e)⟩
  | some a =>
    have hnews : ∀ j u, (ecs l)[j]? = some u → w.cell? (a.add j) = some u := by
      intro j u hj
      obtain ⟨b, off, e, _, hat⟩ := h.at' (fun e => by subst e; simp [ecs] at hj)
      obtain rfl := Option.some.inj e
      exact rdE_src hat j u hj
    have hfl : (ecs l).length = l.length * 15 := ecs_len l
    have HBS := fun (W : World) => bs_E 0 (-77) 0 0 0 (-78) 0 0 W
    have HB1 : Hid (∀ W : World, (Instr.buildSlice 22 2 #[(0, .agg (zC 0 (-77) 0 0)), (1, .agg (zC 0 (-78) 0 0))]).run Tryz.prog W = .ok (.slice (some ⟨W.heap.size, 0, none⟩) 2 2) (W.alloc (.cells (zC 0 (-77) 0 0 ++ zC 0 (-78) 0 0) 59))) := HBS
    clear h hcap HBS
    go_enter Tryz.func5, Tryz.ntmps5
    go_wp2_with (first | (refine wpList_bsl2 rfl 22 (.tmp 7) (.tmp 8) rfl (.agg (zC 0 (-77) 0 0)) (.agg (zC 0 (-78) 0 0)) _ rfl rfl (HB1.out _) ?_) | (at_builtin; refine wpList_append_own _ rfl _ _ 22 rfl w.heap.size 59 ic _ 15 88 Tryz.underlying22 hic hz0 hz1 hz2 zC_size (by decide) _ 0 [] rfl hnil a l.length cap (ecs l) rfl hfl hnews (ecs_ones l) (by unfold maxLen; omega) (by omega) (Nat.le_refl _) ?_; intro v u ho0 hgu _; have hbu : Below w.heap.size w u := (Below.refl w.heap.size w).grown hgu (Nat.le_refl _) (fun q e => own_blockE hnil q e); have ho1 : u.ownsRow w.heap.size 59 15 v l.length (ecs l) := (by simpa using ho0); have hsrc := rowE u (zC 0 (-77) 0 0 ++ zC 0 (-78) 0 0) 59; rw [mkE_ecs] at hsrc; clear ho0) | (at_builtin; refine wpList_append_own _ rfl _ _ 22 rfl w.heap.size 59 ic _ 15 88 Tryz.underlying22 hic hz0 hz1 hz2 zC_size (by decide) v l.length (ecs l) rfl (ho1.alloc _) ⟨u.heap.size, 0, none⟩ 2 2 (ecs mkE) rfl hln hsrc (ecs_ones _) (by unfold maxLen; omega) (by omega) (Nat.le_trans hbu.size (by simp)) ?_; intro v2 u2 ho hgu2 _; obtain ⟨g, cp, rfl, hg0, hg1, hcp⟩ := (own_formE ho).resolve_left (fun q => by have := q.2; omega); have q1 : (l.length : Int) ≤ ((l.length + 2 : Nat) : Int) := (by omega); have q2 : (l.length : Int) ≤ (cp : Int) := (by omega)))
    go_ret
    have hb0 := hbu.alloc hbu.size (.cells (zC 0 (-77) 0 0 ++ zC 0 (-78) 0 0) 59)
    exact ⟨g, cp, rfl, hcp, hg1, hg0, rdE_own (l := l ++ mkE) (by rw [ecs_append]; exact ho) (by simp [mkE]), hb0.grown hgu2 hb0.size (fun q e => own_blockE (ho1.alloc (.cells (zC 0 (-77) 0 0 ++ zC 0 (-78) 0 0) 59)) q e)⟩
set_option maxHeartbeats 4000000 in
set_option maxRecDepth 100000 in
theorem stays_any (g : Nat) (ad2 : Option Addr) (cap cap2 : Nat) (l : List Ev) (w : World) (hg : g < w.heap.size) (h : ∀ (k : Nat) (x : Ev), (l ++ mkE)[k]? = some x → ∀ (i : Nat) (v : Value), (ecA x)[i]? = some v → w.cell? ⟨g, 0 + k * 15 + i, none⟩ = some v) (hc : l.length + 2 ≤ cap) (h2 : RdE w ad2 l) (hl : l.length ≤ 5000) : Calls Tryz.prog 12 #[.slice (some ⟨g, 0, none⟩) l.length cap, .slice ad2 l.length cap2] w fun e w' => e = .returned (.bool true) ∧ Below w.heap.size w w' := by
  have hsm := sameE_any (some ⟨g, 0, none⟩) ad2 cap cap2 l w ⟨fun _ => ⟨g, 0, rfl, hg, fun k x hk => h k x (by rw [List.getElem?_append_left (List.getElem?_eq_some_iff.1 hk).1]; exact hk)⟩, h2.ok⟩ h2 (by omega)
  have hci : (l.length : Int) + 2 ≤ (cap : Int) := by omega
  have h3 : (l.length : Int) < (l.length : Int) + 2 := by omega
  have h4 : (l.length : Int) + 1 < (l.length : Int) + 2 := by omega
  have HM : ∀ V, Below w.heap.size w V → V.cell? ⟨g, l.length * 15 + 1, none⟩ = some (.int .i64 (-77)) ∧ V.cell? ⟨g, (l.length + 1) * 15 + 1, none⟩ = some (.int .i64 (-78)) := fun V hb => by
    have e1 := h l.length ⟨0, -77, 0, 0, 0, 0, 0, 0, 0⟩ (by simp [mkE]) 1 (.int .i64 (-77)) rfl
    have e2 := h (l.length + 1) ⟨0, -78, 0, 0, 0, 0, 0, 0, 0⟩ (by simp [mkE]) 1 (.int .i64 (-78)) rfl
    rw [Nat.zero_add] at e1 e2
    exact ⟨(hb.cell (p := ⟨g, _, none⟩) hg).trans e1, (hb.cell (p := ⟨g, _, none⟩) hg).trans e2⟩
  clear h h2
  go_enter Tryz.func12, Tryz.ntmps12
  go_wp2_with (go_at_call 22; (with_reducible refine hsm.mono ?_); rintro e u1 ⟨rfl, hb1⟩; obtain ⟨m1, m2⟩ := HM u1 hb1)
  go_ret
  exact ⟨rfl, hb1⟩
end Go.Proofs.YtgnhainfcfcodaaGreat
