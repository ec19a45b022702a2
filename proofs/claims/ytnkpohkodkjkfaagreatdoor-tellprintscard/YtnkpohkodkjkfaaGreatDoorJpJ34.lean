/- tell's reader: a note; its readers lie in a map by their first words. -/
import Derived.Test.YtnkpohkodkjkfaaGreatDoorJpJ33
import Derived.StringKeys
import Derived.Test.YtnkpohkodkjkfaaGreatDoorJpJ23
import Derived.Defers
import Derived.Recover
set_option maxHeartbeats 40000000
set_option maxRecDepth 100000
set_option linter.unusedVariables false
namespace Go.Proofs.YtnkpohkodkjkfaaGreatDoor
open Go.RowKit Go.Shelf Go.Lib
attribute [local go_sem] Oper.semAt_some

def rdV (sl mp : Value) (nb wb : Nat) : Value := .agg #[sl, mp, .func (.func 47) #[] #[.pointer (some ⟨nb, 0, none⟩), .pointer (some ⟨wb, 0, none⟩)]]
/-- The map of readers. -/
def ET (R : Value) : Array MapEntry := #[⟨.string ⟨#[113, 117, 101, 114, 121]⟩, .func (.func 49) #[R] #[], 0⟩, ⟨.string ⟨#[114, 101, 112, 108, 121]⟩, .func (.func 50) #[R] #[], 1⟩, ⟨.string ⟨#[114, 117, 109, 111, 114]⟩, .func (.func 51) #[R] #[], 2⟩]
def knV (R : Value) (t : ByteArray) : Value := if t = ⟨#[113, 117, 101, 114, 121]⟩ then .func (.func 49) #[R] #[] else if t = ⟨#[114, 101, 112, 108, 121]⟩ then .func (.func 50) #[R] #[] else if t = ⟨#[114, 117, 109, 111, 114]⟩ then .func (.func 51) #[R] #[] else .nilFunc
theorem keyT : Maps.Keyed Tryz.prog 9 := Maps.string_keyed Tryz.underlying9
theorem keyO {t : ByteArray} (hw : t.size ≤ maxLen) : keyOf Tryz.prog 9 (.string t) = some (.string t.data.toList) := WideMaps.keyOf_string_mk Tryz.underlying9 hw
theorem insT {V : World} {M : Nat} {es : Array MapEntry} {c : Nat} {k : ByteArray} (v : Value) (hb : V.heap[M]? = some (.map es c)) (hk : k.size ≤ maxLen) (hes : ∀ e ∈ es.toList, ∃ j : ByteArray, e.key = .string j ∧ j.size ≤ maxLen ∧ j ≠ k) :
    ∃ V', (Instr.mapUpdate 110 (.map (some M)) (.string k) v).run Tryz.prog V = .ok () V' ∧ V'.heap[M]? = some (.map (es.push ⟨.string k, v, c⟩) (c + 1)) ∧ (∀ n, n ≤ M → Below n V V') := by
  rcases keyT.find V (keyO hk) es.toList (fun e he => by obtain ⟨j, h1, h2, _⟩ := hes e he; exact ⟨_, by rw [h1]; exact keyO h2⟩) with ⟨h1, _⟩ | ⟨j, e0, _, h2, h3⟩
  · refine ⟨ChangeMaps.setBlock V M (.map (es.push ⟨.string k, v, c⟩) (c + 1)), ?_, ChangeMaps.heap_setBlock_same hb _, fun n hn => ?_⟩
    · simp [Instr.mapUpdate, run_underlying Tryz.underlying110, MapKept.run_getObj_map hb, keyT.check V false (keyO hk), h1, MapKept.run_setObj_map _ hb, Result.andThen, ChangeMaps.setBlock]
    · exact ⟨rfl, rfl, rfl, by simp [ChangeMaps.setBlock], fun i hi => ChangeMaps.heap_setBlock_other hb _ (by omega)⟩
  · obtain ⟨j', q1, _, q3⟩ := hes e0 (List.mem_of_getElem? h2)
    rw [q1] at h3
    exact absurd (Value.string.inj h3) q3
theorem lookT {V : World} {M : Nat} {R : Value} (hb : V.heap[M]? = some (.map (ET R) 3)) {k : ByteArray} (hk : k.size ≤ maxLen) : (Instr.lookup 110 (.map (some M)) (.string k) false).run Tryz.prog V = .ok (knV R k) V := by
  have hz : (zeroValue 85).run Tryz.prog V = .ok .nilFunc V := by kernel_rfl
  rcases keyT.find V (keyO hk) (ET R).toList (fun e he => by
    simp only [ET, List.mem_cons, List.not_mem_nil, or_false] at he
    rcases he with rfl | rfl | rfl <;> exact ⟨_, keyO (by decide)⟩) with ⟨h1, h2⟩ | ⟨j, e0, h1, h2, h3⟩
  · have hv : knV R k = .nilFunc := by
      simp only [ET, List.mem_cons, List.not_mem_nil, or_false, forall_eq_or_imp, forall_eq] at h2
      obtain ⟨a1, a2, a3⟩ := h2
      unfold knV
      rw [if_neg (fun e => a1 (by rw [e])), if_neg (fun e => a2 (by rw [e])), if_neg (fun e => a3 (by rw [e]))]
    simp [Instr.lookup, run_underlying Tryz.underlying110, MapKept.run_getObj_map hb, keyT.check V _ (keyO hk), h1, hz, Result.andThen, hv]
  · have hm := List.mem_of_getElem? h2
    have hv : knV R k = e0.val := by
      simp only [ET, List.mem_cons, List.not_mem_nil, or_false] at hm
      rcases hm with rfl | rfl | rfl <;> (have h4 := Value.string.inj h3; subst h4; rfl)
    simp [Instr.lookup, run_underlying Tryz.underlying110, MapKept.run_getObj_map hb, keyT.check V _ (keyO hk), h1, Result.andThen, hv]
theorem hmfT : ∀ (fn : Fn) (first cap : Array Value) (w : World), (Instr.makeFunc fn first cap).run Tryz.prog w = .ok (.func fn first cap) w := fun _ _ _ _ => rfl
theorem neqF (f : FuncId) (a : Array Value) (w : World) : (binOp .neq 85 (.func (.func f) a #[]) .nilFunc).run Tryz.prog w = .ok (.bool true) w := by
  kernel_rfl
set_option maxHeartbeats 1000000 in
set_option maxRecDepth 100000 in
/-- The test of a first word. -/
theorem isKind_yes {R : Value} {M kb : Nat} {V : World} (hm : V.heap[M]? = some (.map (ET R) 3)) (hk : V.heap[kb]? = some (.cells #[.map (some M)] 110 (0, 0))) (x : Tk4) (hts : x.2.1.size ≤ maxLen) (f : FuncId) (hkn : knV R x.2.1 = .func (.func f) #[R] #[]) : Calls Tryz.prog 52 #[tk4 x, .pointer (some ⟨kb, 0, none⟩)] V fun e w' => e = .returned (.bool true) ∧ Below V.heap.size V w' := by
  unfold tk4 tkV
  obtain ⟨W1, hW1⟩ : ∃ W1, V.alloc (.cells #[.int .i64 x.1, .string x.2.1, .int .i64 x.2.2.1, .int .i64 x.2.2.2] 56) = W1 := ⟨_, rfl⟩
  have hb1 : Below V.heap.size V W1 := by rw [← hW1]; exact al1t _ _
  have hr1 : W1.heap[V.heap.size]? = some (.cells #[.int .i64 x.1, .string x.2.1, .int .i64 x.2.2.1, .int .i64 x.2.2.2] 56 (0, 0)) := by rw [← hW1]; exact new_at rfl
  have hlk := lookT ((hb1.block _ (lt_at hm)).trans hm) hts
  rw [hkn] at hlk
  have c0 : W1.cell? ⟨kb, 0, none⟩ = some (.map (some M)) := (cell_at ((hb1.block _ (lt_at hk)).trans hk) 0).trans rfl
  have c1 : W1.cell? ⟨V.heap.size, 1, none⟩ = some (.string x.2.1) := (cell_at hr1 1).trans rfl
  have hn := neqF f #[R]
  clear hm hk hkn
  go_enter Tryz.func52, Tryz.ntmps52
  go_wp2
  go_ret
  exact ⟨rfl, hb1⟩
set_option maxHeartbeats 8000000 in
set_option maxRecDepth 100000 in
theorem note_of {sl mp : Value} {nb wb : Nat} {l : List Tk4} {w : World} (h : Tk nb wb l 0 w) (hl : l.length ≤ 1000000) (f : FuncId) (henf : ∀ args w, (callFunc f args).run Tryz.prog w = .ok (.enter f args) w) (x0 : Tk4) (hx0 : l[0]? = some x0) (hkn : knV (rdV sl mp nb wb) x0.2.1 = .func (.func f) #[rdV sl mp nb wb] #[]) (hts : x0.2.1.size ≤ maxLen) (T : TypeId) (X : Value → Value) (ns : List N3t) (j : Nat) (HB : ∀ V, Ob nb w V → Tk nb wb l 1 V → Calls Tryz.prog f #[rdV sl mp nb wb] V (NtO nb wb l j ns V (fun v => .iface T (X v)))) (xe : Tk4) (hxe : l[j]? = some xe) (hke : xe.1 = 1) (hlen : l.length = j + 1) : Calls Tryz.prog 28 #[.agg #[sl, mp, rdF nb wb]] w (NtO nb wb l (j + 1) ns w (fun v => .iface T (X v))) := by
  have hmf := hmfT
  have hmm := @run_makeMap Tryz.prog
  obtain ⟨W1, hW1⟩ : ∃ W1, w.alloc (.cells #[sl, mp, rdF nb wb] 84) = W1 := ⟨_, rfl⟩
  have hb1 : Below w.heap.size w W1 := by rw [← hW1]; exact al1t _ _
  have hr1 : RdBx W1 w.heap.size sl mp nb wb := by unfold RdBx; rw [← hW1]; exact new_at rfl
  have hnb := lt_at h.nx
  have hne : w.heap.size ≠ nb := by omega
  have hl1 := lt_at hr1
  obtain ⟨V0, hV0⟩ : ∃ V0, W1.alloc (.map #[] 0) = V0 := ⟨_, rfl⟩
  have g0 : V0.heap[W1.heap.size]? = some (.map #[] 0) := by rw [← hV0]; exact new_at rfl
  have b0 : Below W1.heap.size W1 V0 := by rw [← hV0]; exact al1t _ _
  obtain ⟨V1, r1, g1, q1⟩ := insT (k := ⟨#[113, 117, 101, 114, 121]⟩) (.func (.func 49) #[rdV sl mp nb wb] #[]) g0 (by decide) (by simp)
  have b1 := b0.trans (q1 W1.heap.size (Nat.le_refl _))
  obtain ⟨V2, r2, g2, q2⟩ := insT (k := ⟨#[114, 101, 112, 108, 121]⟩) (.func (.func 50) #[rdV sl mp nb wb] #[]) g1 (by decide) (by simp; decide)
  have b2 := b1.trans (q2 W1.heap.size (Nat.le_refl _))
  obtain ⟨V3, r3, g3, q3⟩ := insT (k := ⟨#[114, 117, 109, 111, 114]⟩) (.func (.func 51) #[rdV sl mp nb wb] #[]) g2 (by decide) (by simp; decide)
  have b3 := b2.trans (q3 W1.heap.size (Nat.le_refl _))
  have gET : V3.heap[W1.heap.size]? = some (.map (ET (rdV sl mp nb wb)) 3) := g3
  obtain ⟨V4, hV4⟩ : ∃ V4, V3.alloc (.cells #[.map (some W1.heap.size)] 110) = V4 := ⟨_, rfl⟩
  have b4 : Below V3.heap.size V3 V4 := by rw [← hV4]; exact al1t _ _
  have gk : V4.heap[V3.heap.size]? = some (.cells #[.map (some W1.heap.size)] 110 (0, 0)) := by rw [← hV4]; exact new_at rfl
  have hb03 : Below W1.heap.size W1 V4 := b3.trans (b4.mono (by have := b3.size; omega))
  have gE4 : V4.heap[W1.heap.size]? = some (.map (ET (rdV sl mp nb wb)) 3) := (b4.block _ (lt_at gET)).trans gET
  have gR4 : RdBx V4 w.heap.size sl mp nb wb := (hb03.block _ hl1).trans hr1
  have hO4 : Ob nb w V4 := (Ob.of hb1).trans (Ob.of hb03)
  have hs1 := hb1.size
  have hs03 := b3.size
  have hlE := lt_at gE4
  have hlk := lt_at gk
  have H0 : Hid (Tk nb wb l 0 w) := h
  have HK := take_yes (w := V4) 52 #[.pointer (some ⟨V3.heap.size, 0, none⟩)] (enters_of Tryz.func52 (by kernel_rfl) rfl) ((h.carry hb1).carry hb03) x0 hx0 hl (fun V hV => isKind_yes ((hV.block _ hlE (by omega)).trans gE4) ((hV.block _ hlk (by omega)).trans gk) x0 hts f hkn)
  have HE : Hid (∀ V, Tk nb wb l j V → Calls Tryz.prog 47 #[.func (.func 53) #[] #[], .pointer (some ⟨nb, 0, none⟩), .pointer (some ⟨wb, 0, none⟩)] V fun e w' => e = .returned (.agg (tkC xe)) ∧ Tk nb wb l (j + 1) w' ∧ Ob nb V w') := fun V hV => tk_of 53 (enters_of Tryz.func53 (by kernel_rfl) rfl) hV xe hxe hl _ (isEnd_any _ _ _ _) (by rw [hke]; rfl)
  have HZ : Hid (∀ V, Tk nb wb l (j + 1) V → Calls Tryz.prog 47 #[.func (.func 54) #[] #[], .pointer (some ⟨nb, 0, none⟩), .pointer (some ⟨wb, 0, none⟩)] V fun e w' => e = .returned (tk4 (0, ⟨#[]⟩, 0, 1)) ∧ Tk nb wb l (j + 1) w' ∧ Ob nb V w') := fun V hV => by
    rw [← hlen] at hV ⊢
    exact take_last 54 #[] (enters_of Tryz.func54 (by kernel_rfl) rfl) hV _ rfl (fun U _ => isNone_any 0 0 1 ⟨#[]⟩ U)
  have HBB : Hid (∀ V, Ob nb w V → Tk nb wb l 1 V → Calls Tryz.prog f #[rdV sl mp nb wb] V (NtO nb wb l j ns V (fun v => .iface T (X v)))) := HB
  have k2 : V4.cell? ⟨w.heap.size, 2, none⟩ = some (.func (.func 47) #[] #[.pointer (some ⟨nb, 0, none⟩), .pointer (some ⟨wb, 0, none⟩)]) := (cell_at gR4 2).trans rfl
  have z0 : W1.cell? ⟨w.heap.size, 0, none⟩ = some sl := (cell_at hr1 0).trans rfl
  have z1 : W1.cell? ⟨w.heap.size, 1, none⟩ = some mp := (cell_at hr1 1).trans rfl
  have z2 : W1.cell? ⟨w.heap.size, 2, none⟩ = some (.func (.func 47) #[] #[.pointer (some ⟨nb, 0, none⟩), .pointer (some ⟨wb, 0, none⟩)]) := (cell_at hr1 2).trans rfl
  have a0 : ∀ V, Below W1.heap.size W1 V → V.cell? ⟨w.heap.size, 0, none⟩ = some sl ∧ V.cell? ⟨w.heap.size, 1, none⟩ = some mp ∧ V.cell? ⟨w.heap.size, 2, none⟩ = some (.func (.func 47) #[] #[.pointer (some ⟨nb, 0, none⟩), .pointer (some ⟨wb, 0, none⟩)]) := fun V hV => ⟨(hV.cell (p := ⟨w.heap.size, 0, none⟩) hl1).trans z0, (hV.cell (p := ⟨w.heap.size, 1, none⟩) hl1).trans z1, (hV.cell (p := ⟨w.heap.size, 2, none⟩) hl1).trans z2⟩
  obtain ⟨x00, x01, x02⟩ := a0 V0 b0
  obtain ⟨x10, x11, x12⟩ := a0 V1 b1
  obtain ⟨x20, x21, x22⟩ := a0 V2 b2
  have HLK : Hid (∀ V, Ob nb w V → V.heap[W1.heap.size]? = some (.map (ET (rdV sl mp nb wb)) 3) → (Instr.lookup 110 (.map (some W1.heap.size)) (.string x0.2.1) false).run Tryz.prog V = .ok (.func (.func f) #[rdV sl mp nb wb] #[]) V) := fun V _ hV => by rw [lookT hV hts, hkn]
  unfold rdV at r1 r2 r3
  unfold rdF at hW1 ⊢
  clear h HB hx0 hxe hke hlen g0 g1 g2 g3 q1 q2 q3 b0 b1 b2 gET hkn a0 hr1 z0 z1 z2
  go_enter Tryz.func28, Tryz.ntmps28
  go_wp2_with (first
    | (go_at_call 47; (have hzz := hT5); (with_reducible refine (HZ.out _ hT5).mono ?_); rintro e u6 ⟨rfl, hT6, hO6⟩)
    | (go_at_call 47; (have hzz := hT4); (with_reducible refine (HE.out _ hT4).mono ?_); rintro e u5 ⟨rfl, hT5, hO5⟩; (have g5 := g4.ob hO5 hne); (have m5 : u5.cell? ⟨w.heap.size, 2, none⟩ = some (.func (.func 47) #[] #[.pointer (some ⟨nb, 0, none⟩), .pointer (some ⟨wb, 0, none⟩)]) := (cell_at g5 2).trans rfl))
    | ((with_reducible refine hB3.mono ?_); rintro e u4 ⟨v, rfl, hrow, hT4, hO4'⟩; (have g4 := g3.ob hO4' hne); (have m4 : u4.cell? ⟨w.heap.size, 2, none⟩ = some (.func (.func 47) #[] #[.pointer (some ⟨nb, 0, none⟩), .pointer (some ⟨wb, 0, none⟩)]) := (cell_at g4 2).trans rfl))
    | (refine wpList_store_row rfl 56 (.tmp 4) (.tmp 17) rfl u.heap.size (tkC x0) rfl rfl 56 _ hr2 infoTk rfl (by simp [tkC, Value.oneCell']) ?_; rw [hu3]; (have hO3 : Ob nb w u3 := hO4.trans (hO.trans (Ob.of hb3'))); (have hT3 := hT.carry hb3'); (have g3 : RdBx u3 w.heap.size sl mp nb wb := (hb3'.block _ (by omega)).trans ((hO.block _ (by omega) hne).trans gR4)); (have gE3 := (hb3'.block _ (by omega)).trans ((hO.block _ hlE (by omega)).trans gE4)); (have gk3 := (hb3'.block _ (by omega)).trans ((hO.block _ hlk (by omega)).trans gk)); (have y0 : u3.cell? ⟨V3.heap.size, 0, none⟩ = some (.map (some W1.heap.size)) := (cell_at gk3 0).trans rfl); (have y1 : u3.cell? ⟨u.heap.size, 1, none⟩ = some (.string x0.2.1) := (cell_at hr3 1).trans rfl); (have y2 := HLK.out u3 hO3 gE3); (have hB3 := HBB.out u3 hO3 hT3); unfold rdV at y2 hB3; unfold NtO at hB3)
    | (go_at_call 47; (with_reducible refine HK.mono ?_); rintro e u ⟨rfl, hT, hO⟩; (have hOs := hO.size); obtain ⟨u2, u3, hu2, hu3, hr2, hr3, hb3', hs3⟩ := box_word u x0))
  go_ret
  have hs3' := hO3.size
  refine ⟨v, rfl, ?_, hT6, hO3.trans (hO4'.trans (hO5.trans hO6))⟩
  exact ownsRow_base (ownsRow_ob hrow (hO5.trans hO6) (fun g hg => by have := own_block hrow g hg; omega)) (by omega)
end Go.Proofs.YtnkpohkodkjkfaaGreatDoor
namespace Go.Proofs.YtnkpohkodkjkfaaGreatDoor
open Go.RowKit Go.Shelf Go.Lib

theorem taker_any (ad : Option Addr) (cap : Nat) (l : List Tk4) (hl : l ≠ []) (w : World) (h : RdK w ad l) : Calls Tryz.prog 27 #[.slice ad l.length cap] w fun e w' => e = .returned (rdF (w.heap.size + 1) w.heap.size) ∧ Tk (w.heap.size + 1) w.heap.size l 0 w' ∧ Below w.heap.size w w' := by
  have hmf := hmfT
  unfold rdF
  have HA : Hid (∀ b off, ad = some ⟨b, off, none⟩ → b < w.heap.size) := fun b off e => by
    obtain ⟨b', off', e', h1, _⟩ := h hl
    rw [e] at e'
    cases e'
    exact h1
  have HR : Hid (RdK w ad l) := h
  clear h
  go_enter Tryz.func27, Tryz.ntmps27
  go_wp2
  go_ret
  have hb1 := al1t w (.cells #[.slice ad l.length cap] 52)
  have hb2 : Below w.heap.size w ((w.alloc (.cells #[.slice ad l.length cap] 52)).alloc (.cells #[.int .i64 0] 3)) := hb1.trans ((al1t _ _).mono (by simp))
  exact ⟨rfl, ⟨new_at (by simp), ad, cap, old_at (new_at rfl), HR.out.carry hb2, fun b off e => by have := HA.out b off e; omega⟩, hb2⟩
theorem assertR_nilT (w : World) : (Instr.typeAssert .nilIface 20 79 true).run Tryz.prog w = .ok (.tuple #[.agg #[.int .i64 0, .int .i64 0], .bool false]) w := by kernel_rfl
set_option maxHeartbeats 1000000 in
set_option maxRecDepth 100000 in
theorem catch_idleT (a b c : Nat) (w : World) :
    CallsD Tryz.prog 26 #[.pointer (some ⟨a, 0, none⟩), .pointer (some ⟨b, 0, none⟩), .pointer (some ⟨c, 0, none⟩)] .returning w fun e u' w' => e = .returned (.tuple #[]) ∧ u' = .returning ∧ Below w.heap.size w w' := by
  have hb := al1t w (.cells #[.int .i64 0, .int .i64 0] 79)
  refine callsD_of_wpS Tryz.func26 rfl fun c₀ cs hu => ?_
  apply wpS_seq
  apply wpS_region
  simp [wpOpsS, go_sem, recoverD, hu, Tryz.ntmps26, Exit.thenS, assertR_nilT]
  apply wpS_seq
  apply wpS_region
  simp [wpOpsS, go_sem, Exit.thenS]
  refine wpS_cond (t := false) (by simp [Act.eval, Array.replicate]) ?_
  simp only [Bool.false_eq_true, if_false]
  refine wpS_of_wp (wp_skip ?_)
  cases c₀
  simp_all [bodyPostS, results, Tryz.results26]
theorem res3T {tmps : Array Value} {W : World} {a b c : Nat} {x : Value} {y z : Int} (h4 : tmps[4]?.getD undef = .pointer (some ⟨a, 0, none⟩)) (h5 : tmps[5]?.getD undef = .pointer (some ⟨b, 0, none⟩)) (h6 : tmps[6]?.getD undef = .pointer (some ⟨c, 0, none⟩)) (hx : W.heap[a]? = some (.cells #[x] 40 (0, 0))) (hy : W.heap[b]? = some (.cells #[.int .i64 y] 34 (0, 0))) (hz : W.heap[c]? = some (.cells #[.int .i64 z] 3 (0, 0))) : (results Tryz.f11 tmps).run Tryz.prog W = .ok (.tuple #[x, .int .i64 y, .int .i64 z]) W := by
  have c1 := cell_at hx 0
  have c2 := cell_at hy 0
  have c3 := cell_at hz 0
  simp at c1 c2 c3
  simp [results, Tryz.results11, go_sem, h4, h5, h6, c1, c2, c3]
/-- While Read goes on: the roster's box, the three results. -/
structure JD (w Z : World) (sl mp : Value) (l : List Tk4) (ns : List N3t) (T : TypeId) (X : Value → Value) (nb wb : Nat) (v : Value) (d2 d4 d5 : Bool) (W : World) : Prop where
  below : Below w.heap.size w W
  zb : d5 = false → Below Z.heap.size Z W
  size : Z.heap.size ≤ W.heap.size
  rb : W.heap[w.heap.size]? = some (.cells #[sl, mp] 33 (0, 0))
  ra : W.heap[w.heap.size + 1]? = some (.cells #[if d5 = true then .iface T (X v) else .nilIface] 40 (0, 0))
  re : W.heap[w.heap.size + 1 + 1]? = some (.cells #[.int .i64 0] 34 (0, 0))
  rc : W.heap[w.heap.size + 1 + 1 + 1]? = some (.cells #[.int .i64 0] 3 (0, 0))
  tk : d2 = true → Z.heap.size ≤ nb ∧ (d4 = false → Tk nb wb l 0 W)
  row : d4 = true → W.ownsRow Z.heap.size 99 3 v ns.length (fl ns)
theorem JD.carry {w Z : World} {sl mp : Value} {l : List Tk4} {ns : List N3t} {T : TypeId} {X : Value → Value} {nb wb : Nat} {v : Value} {d2 d4 d5 : Bool} {W V : World} (h : JD w Z sl mp l ns T X nb wb v d2 d4 d5 W) (hb : Below W.heap.size W V) : JD w Z sl mp l ns T X nb wb v d2 d4 d5 V :=
  ⟨bel3 h.below hb, fun e => bel3 (h.zb e) hb, Nat.le_trans h.size hb.size, (hb.block _ (lt_at h.rb)).trans h.rb, (hb.block _ (lt_at h.ra)).trans h.ra, (hb.block _ (lt_at h.re)).trans h.re, (hb.block _ (lt_at h.rc)).trans h.rc, fun e => ⟨(h.tk e).1, fun e2 => ((h.tk e).2 e2).carry hb⟩, fun e => row_below (h.row e) hb⟩
theorem load_ros3 {W : World} {B : Nat} {u v : Value} (h : W.heap[B]? = some (.cells #[u, v] 33 (0, 0))) : (Instr.loadAt 33 (.pointer (some ⟨B, 0, none⟩))).run Tryz.prog W = .ok (.agg #[u, v]) W := by
  have c0 : W.cell? ⟨B, 0, none⟩ = some u := (cell_at h 0).trans rfl
  have c1 : W.cell? ⟨B, 1, none⟩ = some v := (cell_at h 1).trans rfl
  go_simp
theorem step_bld2T {P : Program} {md : Region.Mode} {ops : Array Oper} {Q : Exit → Act → World → Prop} {X0 : Array Value} {val : Nat → Value} {J : World → Prop} {i : Nat} {o : Oper} (hi : ops[i]? = some o) (hg : GOk md ops X0 val i o) (t : TypeId) (k0 k1 : Nat) (x0 x1 : Operand) (v0 v1 : Value) (ho : o.op = .build t #[(k0, x0), (k1, x1)]) (h0 : rdo md ops X0 val i o x0 = some v0) (h1 : rdo md ops X0 val i o x1 = some v1) (hr : ∀ w, J w → (Instr.build t #[(k0, v0), (k1, v1)]).run P w = .ok (val i) w) : StepAt P md ops Q X0 val J J i o :=
  step_of hi hg fun a w hJ hS => by
    unfold Oper.wp execOp
    simp only [ho, hS.eval h0, hS.eval h1, List.map_toArray, List.map_cons, List.map_nil, Sem.run_bind, hr w hJ, Result.andThen_ok, Sem.run_pure, Oper.upon_value]
    exact ⟨trivial, hJ⟩
theorem bld_R (sl mp : Value) (nb wb : Nat) (w : World) : (Instr.build 84 #[(0, .agg #[sl, mp]), (1, rdF nb wb)]).run Tryz.prog w = .ok (.agg #[sl, mp, rdF nb wb]) w := by
  unfold rdF
  go_simp
theorem store_if {W : World} {B : Nat} {x : Value} (h : W.heap[B]? = some (.cells #[x] 40 (0, 0))) (T : TypeId) (y : Value) : (Instr.storeAt 40 (.pointer (some ⟨B, 0, none⟩)) (.iface T y)).run Tryz.prog W = .ok () (W.setCell ⟨B, 0, none⟩ (.iface T y)) := by
  have c0 : W.cell? ⟨B, 0, none⟩ = some x := (cell_at h 0).trans rfl
  have z0 := thaw_at h 0
  go_simp
theorem store_en {W : World} {B : Nat} {x : Value} (h : W.heap[B]? = some (.cells #[x] 34 (0, 0))) (y : Int) : (Instr.storeAt 34 (.pointer (some ⟨B, 0, none⟩)) (.int .i64 y)).run Tryz.prog W = .ok () (W.setCell ⟨B, 0, none⟩ (.int .i64 y)) := by
  have c0 : W.cell? ⟨B, 0, none⟩ = some x := (cell_at h 0).trans rfl
  have z0 := thaw_at h 0
  go_simp
theorem store_in {W : World} {B : Nat} {x : Value} (h : W.heap[B]? = some (.cells #[x] 3 (0, 0))) (y : Int) : (Instr.storeAt 3 (.pointer (some ⟨B, 0, none⟩)) (.int .i64 y)).run Tryz.prog W = .ok () (W.setCell ⟨B, 0, none⟩ (.int .i64 y)) := by
  have c0 : W.cell? ⟨B, 0, none⟩ = some x := (cell_at h 0).trans rfl
  have z0 := thaw_at h 0
  go_simp
theorem JD.st5 {w Z : World} {sl mp : Value} {l : List Tk4} {ns : List N3t} {T : TypeId} {X : Value → Value} {nb wb : Nat} {v : Value} {d5 : Bool} {W : World} (hZ : w.heap.size + 4 ≤ Z.heap.size) (h : JD w Z sl mp l ns T X nb wb v true true d5 W) : JD w Z sl mp l ns T X nb wb v true true true (W.setCell ⟨w.heap.size + 1, 0, none⟩ (.iface T (X v))) :=
  ⟨h.below.setCell (p := ⟨w.heap.size + 1, 0, none⟩) (by simp) _, (fun e => by cases e), by simp only [World.setCell, Array.size_modify]; exact h.size, (Below.heap_setCell _ _ _ _ (by simp)).trans h.rb, (heap_setCell_same _ _ 0 _ _ _ h.ra).trans (by simp), (Below.heap_setCell _ _ _ _ (by simp)).trans h.re, (Below.heap_setCell _ _ _ _ (by show w.heap.size + 1 + 1 + 1 ≠ w.heap.size + 1; omega)).trans h.rc, fun _ => ⟨(h.tk rfl).1, fun e => by cases e⟩, fun e => ownsRow_setCell_below (h.row e) (by show w.heap.size + 1 < Z.heap.size; omega) _⟩
theorem JD.st6 {w Z : World} {sl mp : Value} {l : List Tk4} {ns : List N3t} {T : TypeId} {X : Value → Value} {nb wb : Nat} {v : Value} {W : World} (hZ : w.heap.size + 4 ≤ Z.heap.size) (h : JD w Z sl mp l ns T X nb wb v true true true W) : JD w Z sl mp l ns T X nb wb v true true true (W.setCell ⟨w.heap.size + 1 + 1, 0, none⟩ (.int .i64 0)) :=
  ⟨h.below.setCell (p := ⟨w.heap.size + 1 + 1, 0, none⟩) (by show w.heap.size ≤ w.heap.size + 1 + 1; omega) _, (fun e => by cases e), by simp only [World.setCell, Array.size_modify]; exact h.size, (Below.heap_setCell _ _ _ _ (by show w.heap.size ≠ w.heap.size + 1 + 1; omega)).trans h.rb, (Below.heap_setCell _ _ _ _ (by show w.heap.size + 1 ≠ w.heap.size + 1 + 1; omega)).trans h.ra, (heap_setCell_same _ _ 0 _ _ _ h.re).trans (by simp), (Below.heap_setCell _ _ _ _ (by simp)).trans h.rc, fun _ => ⟨(h.tk rfl).1, fun e => by cases e⟩, fun e => ownsRow_setCell_below (h.row e) (by show w.heap.size + 1 + 1 < Z.heap.size; omega) _⟩
theorem JD.st7 {w Z : World} {sl mp : Value} {l : List Tk4} {ns : List N3t} {T : TypeId} {X : Value → Value} {nb wb : Nat} {v : Value} {W : World} (hZ : w.heap.size + 4 ≤ Z.heap.size) (h : JD w Z sl mp l ns T X nb wb v true true true W) : JD w Z sl mp l ns T X nb wb v true true true (W.setCell ⟨w.heap.size + 1 + 1 + 1, 0, none⟩ (.int .i64 0)) :=
  ⟨h.below.setCell (p := ⟨w.heap.size + 1 + 1 + 1, 0, none⟩) (by show w.heap.size ≤ w.heap.size + 1 + 1 + 1; omega) _, (fun e => by cases e), by simp only [World.setCell, Array.size_modify]; exact h.size, (Below.heap_setCell _ _ _ _ (by show w.heap.size ≠ w.heap.size + 1 + 1 + 1; omega)).trans h.rb, (Below.heap_setCell _ _ _ _ (by show w.heap.size + 1 ≠ w.heap.size + 1 + 1 + 1; omega)).trans h.ra, (Below.heap_setCell _ _ _ _ (by simp)).trans h.re, (heap_setCell_same _ _ 0 _ _ _ h.rc).trans (by simp), fun _ => ⟨(h.tk rfl).1, fun e => by cases e⟩, fun e => ownsRow_setCell_below (h.row e) (by show w.heap.size + 1 + 1 + 1 < Z.heap.size; omega) _⟩
/-- What Read answers of a note's text. -/
def RdT (T : TypeId) (X : Value → Value) (ns : List N3t) (w : World) (e : Ending) (w' : World) : Prop := ∃ v, e = .returned (.tuple #[.iface T (X v), .int .i64 0, .int .i64 0]) ∧ w'.ownsRow w.heap.size 99 3 v ns.length (fl ns) ∧ Below w.heap.size w w'
set_option maxHeartbeats 8000000 in
set_option maxRecDepth 100000 in
theorem read_of {M : Nat} {sl mp : Value} {L : List Int} {w : World} (hR : Ros M w (.agg #[sl, mp]) L) (hM : M ≤ w.heap.size) (hU : Ut w) (hL : L.length ≠ 0) (s : ByteArray) (l : List Tk4) (hne : l ≠ []) (hS : ∀ V, Calls Tryz.prog 16 #[.string s] V fun e w' => ∃ ad cap, e = .returned (.tuple #[.slice ad l.length cap, .int .i64 0, .int .i64 0, .int .i64 0]) ∧ RdK w' ad l ∧ Below V.heap.size V w') (T : TypeId) (X : Value → Value) (ns : List N3t) (hN : ∀ nb wb V, En M L sl mp nb V → Tk nb wb l 0 V → Calls Tryz.prog 28 #[.agg #[sl, mp, rdF nb wb]] V (NtO nb wb l l.length ns V (fun v => .iface T (X v)))) : Calls Tryz.prog 11 #[.agg #[sl, mp], .string s] w (RdT T X ns w) := by
  have hmx : Tryz.prog.follows .mixedOrders = true := by kernel_rfl
  have hmf := hmfT
  have HSZ : Hid (∀ V, Below w.heap.size w V → Calls Tryz.prog 15 #[.agg #[sl, mp]] V fun e w' => e = .returned (.int .i64 (L.length : Int)) ∧ Below V.heap.size V w') := fun V hV => size_any V (hR.below (hV.mono hM))
  obtain ⟨n, hn⟩ : ∃ n, L.length = n := ⟨_, rfl⟩
  rw [hn] at HSZ hL
  have hn0 : ((n : Int) == 0) = false := by simp; omega
  obtain ⟨W1, hW1⟩ : ∃ W1, w.alloc (.cells #[sl, mp] 33) = W1 := ⟨_, rfl⟩
  have hb1 : Below w.heap.size w W1 := by rw [← hW1]; exact al1t _ _
  have z1 : W1.heap.size = w.heap.size + 1 := by rw [← hW1]; simp
  have r1 : W1.heap[w.heap.size]? = some (.cells #[sl, mp] 33 (0, 0)) := by rw [← hW1]; exact new_at rfl
  obtain ⟨W2, hW2⟩ : ∃ W2, W1.alloc (.cells #[.nilIface] 40) = W2 := ⟨_, rfl⟩
  have hb2 : Below W1.heap.size W1 W2 := by rw [← hW2]; exact al1t _ _
  have z2 : W2.heap.size = w.heap.size + 1 + 1 := by rw [← hW2]; simp; omega
  have r2 : W2.heap[w.heap.size + 1]? = some (.cells #[.nilIface] 40 (0, 0)) := by rw [← hW2]; exact new_at z1.symm
  obtain ⟨W3, hW3⟩ : ∃ W3, W2.alloc (.cells #[.int .i64 0] 34) = W3 := ⟨_, rfl⟩
  have hb3 : Below W2.heap.size W2 W3 := by rw [← hW3]; exact al1t _ _
  have z3 : W3.heap.size = w.heap.size + 1 + 1 + 1 := by rw [← hW3]; simp; omega
  have r3 : W3.heap[w.heap.size + 1 + 1]? = some (.cells #[.int .i64 0] 34 (0, 0)) := by rw [← hW3]; exact new_at z2.symm
  obtain ⟨W4, hW4⟩ : ∃ W4, W3.alloc (.cells #[.int .i64 0] 3) = W4 := ⟨_, rfl⟩
  have hb4 : Below W3.heap.size W3 W4 := by rw [← hW4]; exact al1t _ _
  have z4 : W4.heap.size = w.heap.size + 1 + 1 + 1 + 1 := by rw [← hW4]; simp; omega
  have r4 : W4.heap[w.heap.size + 1 + 1 + 1]? = some (.cells #[.int .i64 0] 3 (0, 0)) := by rw [← hW4]; exact new_at z3.symm
  have hb04 := bel3 (bel3 (bel3 hb1 hb2) hb3) hb4
  have g1 : W4.heap[w.heap.size]? = some (.cells #[sl, mp] 33 (0, 0)) := (hb4.block _ (by omega)).trans ((hb3.block _ (by omega)).trans ((hb2.block _ (by omega)).trans r1))
  have g2 := (hb4.block _ (by omega)).trans ((hb3.block _ (by omega)).trans r2)
  have g3 := (hb4.block _ (by omega)).trans r3
  have c0 : W4.cell? ⟨w.heap.size, 0, none⟩ = some sl := (cell_at g1 0).trans rfl
  have c1 : W4.cell? ⟨w.heap.size, 1, none⟩ = some mp := (cell_at g1 1).trans rfl
  have HR : Hid (Ros M w (.agg #[sl, mp]) L) := hR
  have HS : Hid (∀ V, Calls Tryz.prog 16 #[.string s] V fun e w' => ∃ ad cap, e = .returned (.tuple #[.slice ad l.length cap, .int .i64 0, .int .i64 0, .int .i64 0]) ∧ RdK w' ad l ∧ Below V.heap.size V w') := hS
  have HN : Hid (∀ nb wb V, En M L sl mp nb V → Tk nb wb l 0 V → Calls Tryz.prog 28 #[.agg #[sl, mp, rdF nb wb]] V (NtO nb wb l l.length ns V (fun v => .iface T (X v)))) := hN
  have hz4 := hb04.size
  obtain ⟨m, hm⟩ : ∃ m, l.length = m := ⟨_, rfl⟩
  have hm' : Hid (l.length = m) := hm
  rw [hm] at HS
  have HU : Hid (Ut w) := hU
  have HNE : Hid (l ≠ []) := hne
  have HHM : Hid (M ≤ w.heap.size) := hM
  clear hR hN hS hn hb1 hb2 hb3 hb4 r1 r2 r3 hU hne hL hm hM
  have q1 : W1.heap.size = w.heap.size + 1 := z1
  go_enter_defers Tryz.func11, Tryz.ntmps11
  go_wp2_with (first
    | (go_at_call 16; (with_reducible refine (HS.out _).mono ?_); rintro e u2 ⟨ad, cap, rfl, hrd, hu2⟩)
    | (go_at_call 15; (with_reducible refine (HSZ.out _ hb04).mono ?_); rintro e u1 ⟨rfl, hu1⟩))
  have hu12 := bel3 hu1 hu2
  have hb2 := bel3 hb04 hu12
  have hz2 := hu12.size
  have hz5 : w.heap.size + 4 ≤ u2.heap.size := by omega
  have hJ : Hid (JD w u2 sl mp l ns T X 0 0 undef false false false u2) := ⟨hb2, fun _ => Below.refl _ _, Nat.le_refl _, (hu12.block _ (by omega)).trans g1, (hu12.block _ (by omega)).trans g2, (hu12.block _ (by omega)).trans g3, (hu12.block _ (by omega)).trans r4, (fun e => by cases e), (fun e => by cases e)⟩
  have HEN : Hid (∀ nb V, Below w.heap.size w V → w.heap.size ≤ nb → En M L sl mp nb V) := fun nb V hV hn => ⟨fun U hO => HR.out.below ((hO.below hV hn hV.size).mono HHM.out), fun U hO => HU.out.carry (hO.below hV hn hV.size), Nat.le_trans HHM.out hn, Nat.le_trans HHM.out hV.size⟩
  have HRD : Hid (RdK u2 ad l) := hrd
  clear g1 g2 g3 r4 c0 c1 hrd HSZ HS
  refine wp_region_any hmx ?_
  refine wpAny_tabG (G := ((Nat × Nat) × Value)) (fun g i__ => ([(.agg #[sl, mp]), (.slice ad m cap), (rdF g.1.1 g.1.2), (.agg #[sl, mp, rdF g.1.1 g.1.2]), (.iface T (X g.2)), undef, undef, undef] : List Value).getD i__ undef) (fun g d V => JD w u2 sl mp l ns T X g.1.1 g.1.2 g.2 (d 2) (d 4) (d 5) V) (by kernel_rfl) (((0, 0), undef)) (hJ.out.carry (Below.refl _ _).drew) ?step4 ?fin4
  case step4 =>
    intro i o ho
    have hi : i < 8 := getElem?_lt ho
    match i, hi, ho with
    | 0, _, ho =>
      cases ho
      refine stepG_of (fun g d hdep => ?_)
      exact step_load rfl trivial _ _ _ rfl rfl (fun v hw => load_ros3 hw.rb)
    | 1, _, ho =>
      cases ho
      refine stepG_of (fun g d hdep => ?_)
      exact step_move rfl trivial _ rfl (by kernel_rfl)
    | 2, _, ho =>
      cases ho
      exact stepG_call rfl (fun _ => trivial) 27 _ _ (fun _ => [.slice ad m cap]) rfl (fun g => by kernel_rfl) (enters_of Tryz.func27 (by kernel_rfl) rfl) (fun g d V hJ hun hdep hcl => by have h5 : d 5 = false := (by cases h : d 5 with | false => rfl | true => exact absurd (hcl 5 _ rfl h 2 (by kernel_rfl)) (by rw [hun]; simp)); have h4 : d 4 = false := (by cases h : d 4 with | false => rfl | true => exact absurd (hcl 4 _ rfl h 2 (by kernel_rfl)) (by rw [hun]; simp)); rw [← hm'.out]; exact (taker_any ad cap l HNE.out V (HRD.out.carry (hJ.zb h5))).mono (by rintro e w' ⟨rfl, h1, h2⟩; refine ⟨((V.heap.size + 1, V.heap.size), g.2), rfl, (fun j hj => match j, hj with | 2, hj => (by rw [hj] at hun; cases hun) | 3, hj => absurd ((hcl 3 _ rfl hj 2 (by kernel_rfl))) (by rw [hun]; simp) | 0, _ => rfl | 1, _ => rfl | 4, _ => rfl | 5, _ => rfl | 6, _ => rfl | 7, _ => rfl | _ + 8, _ => rfl), ?_⟩; have h := hJ.carry h2; rw [hun, h4, h5] at h; show JD w u2 sl mp l ns T X (V.heap.size + 1) V.heap.size g.2 true (d 4) (d 5) w'; rw [h4, h5]; exact ⟨h.below, h.zb, h.size, h.rb, h.ra, h.re, h.rc, fun _ => ⟨Nat.le_succ_of_le hJ.size, fun _ => h1⟩, fun e => by cases e⟩))
    | 3, _, ho =>
      cases ho
      exact stepG_of (fun g d hdep => step_bld2T rfl trivial _ _ _ _ _ (.agg #[sl, mp]) (rdF g.1.1 g.1.2) rfl (by kernel_rfl) (by kernel_rfl) (fun v hw => bld_R sl mp _ _ v))
    | 4, _, ho =>
      cases ho
      exact stepG_call rfl (fun _ => trivial) 28 _ _ (fun g => [.agg #[sl, mp, rdF g.1.1 g.1.2]]) rfl (fun g => by kernel_rfl) (enters_of Tryz.func28 (by kernel_rfl) rfl) (fun g d V hJ hun hdep hcl => by have h5 : d 5 = false := (by cases h : d 5 with | false => rfl | true => exact absurd (hcl 5 _ rfl h 4 (by kernel_rfl)) (by rw [hun]; simp)); have h2 := hdep 2 (by kernel_rfl); rw [h2, hun, h5] at hJ; have hk := hJ.tk rfl; have hzu := hb2.size; exact (HN.out g.1.1 g.1.2 V (HEN.out g.1.1 V hJ.below (by omega)) (hk.2 rfl)).mono (by rintro e w' ⟨v, rfl, h1, h3, h4⟩; refine ⟨(g.1, v), rfl, (fun j hj => match j, hj with | 4, hj => (by rw [hj] at hun; cases hun)  | 0, _ => rfl | 1, _ => rfl | 2, _ => rfl | 3, _ => rfl | 5, _ => rfl | 6, _ => rfl | 7, _ => rfl | _ + 8, _ => rfl), ?_⟩; show JD w u2 sl mp l ns T X g.1.1 g.1.2 v (d 2) true (d 5) w'; rw [h2, h5]; exact ⟨h4.below hJ.below (by omega) hJ.below.size, fun _ => h4.below (hJ.zb rfl) hk.1 hJ.size, Nat.le_trans hJ.size h4.size, (h4.block _ (lt_at hJ.rb) (by omega)).trans hJ.rb, (h4.block _ (lt_at hJ.ra) (by omega)).trans hJ.ra, (h4.block _ (lt_at hJ.re) (by omega)).trans hJ.re, (h4.block _ (lt_at hJ.rc) (by omega)).trans hJ.rc, fun _ => ⟨hk.1, fun e => by cases e⟩, fun _ => ownsRow_base h1 hJ.size⟩))
    | 5, _, ho =>
      cases ho
      refine stepG_of (fun g d hdep => ?_)
      exact step_store rfl trivial rfl _ _ _ _ _ rfl rfl rfl (fun V hw => by have h2 := hdep 2 (by kernel_rfl); have h4 := hdep 4 (by kernel_rfl); rw [h2, h4] at hw; refine ⟨_, store_if hw.ra T (X g.2), ?_⟩; show JD w u2 sl mp l ns T X g.1.1 g.1.2 g.2 (d 2) (d 4) true _; rw [h2, h4]; exact hw.st5 hz5)
    | 6, _, ho =>
      cases ho
      refine stepG_of (fun g d hdep => ?_)
      exact step_store rfl trivial rfl _ _ _ _ _ rfl rfl rfl (fun V hw => by have h2 := hdep 2 (by kernel_rfl); have h4 := hdep 4 (by kernel_rfl); have h5 := hdep 5 (by kernel_rfl); rw [h2, h4, h5] at hw; refine ⟨_, store_en hw.re 0, ?_⟩; show JD w u2 sl mp l ns T X g.1.1 g.1.2 g.2 (d 2) (d 4) (d 5) _; rw [h2, h4, h5]; exact hw.st6 hz5)
    | 7, _, ho =>
      cases ho
      refine stepG_of (fun g d hdep => ?_)
      exact step_store rfl trivial rfl _ _ _ _ _ rfl rfl rfl (fun V hw => by have h2 := hdep 2 (by kernel_rfl); have h4 := hdep 4 (by kernel_rfl); have h5 := hdep 5 (by kernel_rfl); rw [h2, h4, h5] at hw; refine ⟨_, store_in hw.rc 0, ?_⟩; show JD w u2 sl mp l ns T X g.1.1 g.1.2 g.2 (d 2) (d 4) (d 5) _; rw [h2, h4, h5]; exact hw.st7 hz5)
  intro g d W hall hW
  first | refine hK _ _ ?_ | refine (‹∀ (a : Act) (w : World), Code.wp Tryz.prog _ _ a w → _›) _ _ ?_ | skip
  simp only [finL, List.getD_cons_zero, List.getD_cons_succ, Nat.zero_add, Nat.reduceAdd, List.setIfInBounds_toArray, List.set_cons_zero, List.set_cons_succ]
  have hjW : JD w u2 sl mp l ns T X g.1.1 g.1.2 g.2 true true true W := by have := hW; rw [hall 2 (by decide), hall 4 (by decide), hall 5 (by decide)] at this; exact this
  go_wp2
  refine leaves_cons (f := 26) (args := #[.pointer (some ⟨w.heap.size + 1, 0, none⟩), .pointer (some ⟨w.heap.size + 1 + 1, 0, none⟩), .pointer (some ⟨w.heap.size + 1 + 1 + 1, 0, none⟩)]) (by simp) (by simp [go_sem]) ?_
  refine (catch_idleT (w.heap.size + 1) (w.heap.size + 1 + 1) (w.heap.size + 1 + 1 + 1) _).mono ?_
  rintro e u' w'' ⟨rfl, rfl, hbw⟩
  have hj := hjW.carry hbw
  have hA := hj.ra
  rw [if_pos rfl] at hA
  exact ⟨_, res3T rfl rfl rfl hA hj.re hj.rc, g.2, rfl, ownsRow_base (hj.row rfl) hb2.size, hj.below⟩

theorem flat4_at : ∀ (l : List Tk4) (k : Nat) (x : Tk4) (j : Nat) (v : Value), l[k]? = some x → (tkC x)[j]? = some v → (l.flatMap (fun x => (tkC x).toList))[k * 4 + j]? = some v
  | [], k, x, j, v, h, _ => by simp at h
  | y :: l, 0, x, j, v, h, hv => by
    simp at h
    subst h
    have hj : j < 4 := (Array.getElem?_eq_some_iff.1 hv).1
    rw [List.flatMap_cons, List.getElem?_append_left (by simp [tkC]; omega), Nat.zero_mul, Nat.zero_add, Array.getElem?_toList]
    exact hv
  | y :: l, k + 1, x, j, v, h, hv => by
    simp at h
    rw [List.flatMap_cons, List.getElem?_append_right (by simp [tkC]; omega), show (k + 1) * 4 + j - (tkC y).toList.length = k * 4 + j by simp [tkC]; omega]
    exact flat4_at l k x j v h hv
theorem scan_told (r : List Pc) (h : okP r) (hne : tks 0 r ≠ []) (hs : (txt (pcR r)).size ≤ 65536) (V : World) : Calls Tryz.prog 16 #[.string (txt (pcR r))] V fun e w' => ∃ ad cap, e = .returned (.tuple #[.slice ad (wds r).length cap, .int .i64 0, .int .i64 0, .int .i64 0]) ∧ RdK w' ad (wds r) ∧ Below V.heap.size V w' := by
  obtain ⟨h1, h2, h3⟩ := told_rows r h hne
  refine (callsIn_wide.1 (scan_in (txt (pcR r)) hs V)).mono ?_
  rintro e w' ⟨hv, hb⟩
  unfold ScV at hv
  rw [h1, h2, h3] at hv
  obtain ⟨v, rfl, hrow⟩ := hv
  obtain ⟨ad, cap, rfl, hc⟩ := ownsRow_form hrow
  refine ⟨ad, cap, rfl, fun hl => ?_, hb⟩
  obtain ⟨g, rfl, g1, g2, g3, g4⟩ := hc (List.length_pos_iff.2 hl)
  exact ⟨g, 0, rfl, g2, fun k x hk j u hu => by rw [Nat.zero_add]; exact g4 _ _ (flat4_at _ k x j u hk hu)⟩
theorem wr_dg (v : Nat) (h : v < 18446744073709551616) : (wr (dgR v)).length ≤ 20 := by rw [← txt_sz]; exact dg_size v h
theorem wr_c (c : Int) : (wr [c]).length ≤ 4 := by have := wr_len [c]; simpa using this
theorem wr_pc (k : Int) (x : List Int) (r : List Pc) : (wr (pcR ((k, x) :: r))).length = (wr x).length + (wr (pcR r)).length := by rw [pcR, wr_append, List.length_append]
theorem wr_nt {L : List Int} {x : N3t} (h : vN L x) (r : List Pc) : (wr (pcR (ntP L x ++ r))).length ≤ 28 + (wr (pcR r)).length := by
  obtain ⟨o, t, e1, e2, h1, h2, h3⟩ := vN_facts h
  unfold ntP sgP mkP nuP
  rw [List.cons_append, List.cons_append, List.cons_append, List.nil_append, wr_pc, wr_pc, wr_pc]
  have a := wr_c (L.getD x.1.toNat 0)
  have b := wr_c (mkI x.2.2)
  have c := wr_dg x.2.1.toNat (by omega)
  omega
theorem wr_ns {L : List Int} : ∀ (ns : List N3t) (r : List Pc), (∀ x ∈ ns, vN L x) → (wr (pcR (nsP L ns ++ r))).length ≤ 32 * ns.length + (wr (pcR r)).length
  | [], r, _ => by simp [nsP]
  | [x], r, h => by have := wr_nt (h x (by simp)) r; simp only [nsP, List.length_singleton]; omega
  | x :: y :: ns, r, h => by
    rw [nsP, List.append_assoc]
    have h1 := wr_nt (h x (by simp)) (blP :: nsP L (y :: ns) ++ r)
    have h2 := wr_ns (y :: ns) r (fun z hz => h z (List.mem_cons_of_mem _ hz))
    have h3 : (wr (pcR (blP :: nsP L (y :: ns) ++ r))).length = (wr [32]).length + (wr (pcR (nsP L (y :: ns) ++ r))).length := wr_pc 0 [32] _
    have h4 := wr_c 32
    simp only [List.length_cons] at h2 ⊢
    omega
theorem wr_news {L : List Int} (ns : List N3t) (h : ∀ x ∈ ns, vN L x) : (wr (pcR (newsP L ns))).length ≤ 32 * ns.length + 8 := by
  unfold newsP
  have h1 : (wr (pcR (mkP 91 :: (nsP L ns ++ [mkP 93])))).length = _ := wr_pc 5 [91] _
  have h2 := wr_ns ns [mkP 93] h
  have h3 : (wr (pcR [mkP 93])).length = _ := wr_pc 5 [93] []
  have h4 := wr_c 91
  have h5 := wr_c 93
  have h6 : (wr (pcR [])).length = 0 := rfl
  omega
theorem wr_set (L : List Int) (N : Nat) : (wr (setP L N).2).length ≤ 512 := by
  unfold setP
  split
  · have := wr_c 45; show (wr [45]).length ≤ 512; omega
  · have h1 := wr_len (sgs L (idsTo N 128))
    have h2 : (sgs L (idsTo N 128)).length ≤ 128 := by
      unfold sgs
      rw [List.length_map]
      exact Nat.le_trans (List.length_filter_le _ _) (by simp)
    show (wr (sgs L (idsTo N 128))).length ≤ 512
    omega
/-- A note's text is short. -/
theorem note_short {L : List Int} {kd : Nat} {fr : Int} {rd N : Nat} {ns : List N3t} (hr : rd ≤ 1099511627775) (hv : ∀ x ∈ ns, vN L x) (hn : ns.length ≤ 1000) : (txt (pcR (noteP L kd fr rd N ns))).size ≤ 65536 := by
  rw [txt_sz]
  have h1 := wr_news ns hv
  have h2 := wr_c (L.getD fr.toNat 0)
  have h3 := wr_dg rd (by omega)
  have h4 := wr_set L N
  have h5 := wr_c 32
  have q1 : (wr (wordP ⟨#[113, 117, 101, 114, 121]⟩).2).length ≤ 20 := wr_len _
  have q2 : (wr (wordP ⟨#[114, 101, 112, 108, 121]⟩).2).length ≤ 20 := wr_len _
  have q3 : (wr (wordP ⟨#[114, 117, 109, 111, 114]⟩).2).length ≤ 20 := wr_len _
  have e0 : ∀ (p : Pc) (r : List Pc), (wr (pcR (p :: r))).length = (wr p.2).length + (wr (pcR r)).length := fun p r => wr_pc p.1 p.2 r
  have e1 : (wr blP.2).length = (wr [32]).length := rfl
  have e2 : (wr (sgP (L.getD fr.toNat 0)).2).length = (wr [L.getD fr.toNat 0]).length := rfl
  have e3 : (wr (nuP rd).2).length = (wr (dgR rd)).length := rfl
  unfold noteP
  split
  · rw [e0, e0, e0, e0, e0, e0, e1, e2, e3]; omega
  · split
    · rw [e0, e0, e0, e0, e0, e0, e0, e0, e1, e2, e3]; omega
    · rw [e0, e0, e0, e0, e1, e2]; omega
theorem pc_ne (p : Pc) (r : List Pc) (h : p.1 ≠ 0) : tks 0 (p :: r) ≠ [] := by
  obtain ⟨k, x⟩ := p
  rw [tks, if_neg h]
  simp
theorem note_ne (L : List Int) (kd : Nat) (fr : Int) (rd N : Nat) (ns : List N3t) : tks 0 (noteP L kd fr rd N ns) ≠ [] := by
  unfold noteP
  split
  · exact pc_ne _ _ (by decide)
  · split
    · exact pc_ne _ _ (by decide)
    · exact pc_ne _ _ (by decide)
theorem wds_ne (r : List Pc) : wds r ≠ [] := by
  unfold wds
  simp
/-- Notices that a note of a roster's node can have. -/
structure NsV (L : List Int) (ns : List N3t) : Prop where
  v : ∀ x ∈ ns, vN L x
  r : ∀ k (x y : N3t), ns[k]? = some x → ns[k + 1]? = some y → x.1 < y.1
  n : ns.length ≤ 1000
theorem wkt_cons (p : Pc) (r : List Pc) (h : p.1 ≠ 0) : wkt (p :: r) = (p.1, txt p.2) :: wkt r := by
  unfold wkt
  rw [List.filterMap_cons, if_neg h]
theorem wkt_bl (r : List Pc) : wkt (blP :: r) = wkt r := by
  unfold wkt blP
  rw [List.filterMap_cons, if_pos rfl]
theorem txt_wd (b : ByteArray) (h : ∀ x ∈ b.data.toList, x.toNat < 128) : txt (wordP b).2 = b := by
  show txt (b.data.toList.map _) = b
  rw [txt_asc _ h]
theorem fl_news (L : List Int) (ns : List N3t) : (wkt (newsP L ns)).length = 3 * ns.length + 2 := by
  rw [wkt_news, List.length_cons, List.length_append, flat3_len]
  simp
theorem read_query {M : Nat} {sl mp : Value} {L : List Int} {w : World} (hR : Ros M w (.agg #[sl, mp]) L) (hM : M ≤ w.heap.size) (hU : Ut w) {fr rd N : Nat} {ns : List N3t} (hf : fr < L.length) (h1 : 1 ≤ rd) (h2 : rd ≤ 1099511627775) (hw : wthB N L.length = true) (hV : NsV L ns) : Calls Tryz.prog 11 #[.agg #[sl, mp], .string (txt (pcR (noteP L 1 (fr : Int) rd N ns)))] w (RdT 70 (fun v => .agg #[.int .i64 (fr : Int), .int .i64 (rd : Int), v]) ns w) := by
  have hS := hR.1
  have hok := ok_note hS (kd := 1) hf h2 hw hV.v
  have hsz := note_short (kd := 1) (fr := (fr : Int)) (N := N) h2 hV.v hV.n
  have hk := wds_kt (noteP L 1 (fr : Int) rd N ns)
  have hlen := wds_len (noteP L 1 (fr : Int) rd N ns)
  have hwk : wkt (noteP L 1 (fr : Int) rd N ns) = (2, ⟨#[113, 117, 101, 114, 121]⟩) :: (2, txt [L.getD fr 0]) :: (3, txt (dgR rd)) :: wkt (newsP L ns) := by
    unfold noteP
    rw [if_pos rfl, wkt_cons _ _ (by decide), txt_wd _ (by decide), wkt_bl, wkt_cons _ _ (show (2 : Int) ≠ 0 by decide), wkt_bl, wkt_cons _ _ (show (3 : Int) ≠ 0 by decide), wkt_bl, Int.toNat_natCast]
    rfl
  rw [hwk] at hk hlen
  have hfn := fl_news L ns
  have hl3 : (wds (noteP L 1 (fr : Int) rd N ns)).length = 1 + 1 + 1 + 1 + 3 * ns.length + 1 + 1 := by rw [hlen, List.length_cons, List.length_cons, List.length_cons, hfn]; omega
  obtain ⟨x0, a1, a2, a3⟩ := at_kt (l := wds (noteP L 1 (fr : Int) rd N ns)) (i := 0) (k := 2) (t := ⟨#[113, 117, 101, 114, 121]⟩) (by rw [hk]; rfl)
  have b1 := sgA_of hS (l := wds (noteP L 1 (fr : Int) rd N ns)) (i := 1) hf (by rw [hk]; rfl)
  have b2 := rnA_of (l := wds (noteP L 1 (fr : Int) rd N ns)) (i := 1 + 1) h1 h2 (by rw [hk]; rfl)
  have b3 := nwA_of hS (l := wds (noteP L 1 (fr : Int) rd N ns)) (i := 1 + 1 + 1) (ns := ns) (A := [(2, ⟨#[113, 117, 101, 114, 121]⟩), (2, txt [L.getD fr 0]), (3, txt (dgR rd))]) (B := [(1, ⟨#[10]⟩)]) (by rw [hk]; rfl) rfl hV.v hV.r
  obtain ⟨xe, c1, c2, _⟩ := at_kt (l := wds (noteP L 1 (fr : Int) rd N ns)) (i := 1 + 1 + 1 + 1 + 3 * ns.length + 1) (k := 1) (t := ⟨#[10]⟩) (by
    rw [hk, List.getElem?_append_right (by rw [List.length_cons, List.length_cons, List.length_cons, hfn]; omega), List.length_cons, List.length_cons, List.length_cons, hfn, show 1 + 1 + 1 + 1 + 3 * ns.length + 1 - (3 * ns.length + 2 + 1 + 1 + 1) = 0 by omega]
    rfl)
  have hn := hV.n
  refine read_of hR hM hU (by omega) _ _ (wds_ne _) (scan_told _ hok (note_ne _ _ _ _ _ _) hsz) _ _ ns (fun nb wb V hE hT => ?_)
  rw [hl3]
  exact note_of hT (by omega) 49 (enters_of Tryz.func49 (by kernel_rfl) rfl) x0 a1 (by rw [a3]; rfl) (by rw [a3]; decide) _ _ ns _ (fun U hO hT' => query_ok (hE.on hO) hT' (by omega) fr rd ns b1 b2 b3 hn) xe c1 c2 hl3
end Go.Proofs.YtnkpohkodkjkfaaGreatDoor
