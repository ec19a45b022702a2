/- Sets in lists: what the book of lists asks. -/
import Derived.Test.YtcdefcaoocnlbaaTyg
import Derived.Test.YtcdefcaoocnlbaaOwn
import Derived.Laws.CopyRow
import Derived.Laws.CopyOwn
namespace Go.Proofs.Ytcdefcaoocnlbaa
open Go.RowKit Go.Shelf Go.Lib

def vnatR (v : Value) : Nat := match v with | .int _ n => n.toNat | _ => 0
theorem al1 (w : World) (o : Obj) : Below w.heap.size w (w.alloc o) := (Below.refl _ w).alloc (Nat.le_refl _) o
theorem info_partsZ : ∃ i, Try.prog.info? 24 = some i ∧ i.zero = some (.agg #[.int .u32 0, .int .u32 0, .int .u32 0, .int .u32 0]) ∧ i.size = 4 ∧ i.bytes = 16 := info_parts infoZ
theorem fs_nil : fs [] = [] := rfl
theorem ss_own {W : World} {base g n cap : Nat} {l : List Nat} (h : W.ownsRow base 24 4 (.slice (some ⟨g, 0, none⟩) n cap) n (fs l)) (hn : n = l.length) : SsAt W g 0 l := by
  intro k x hk
  have hlt : k < l.length := (List.getElem?_eq_some_iff.1 hk).1
  obtain ⟨c0, c1, c2, c3⟩ := fs_get l k x hk
  rw [Nat.zero_add]
  exact ⟨(h.cellAt _ (by omega)).trans c0, (h.cellAt _ (by omega)).trans c1, (h.cellAt _ (by omega)).trans c2, (h.cellAt _ (by omega)).trans c3⟩
theorem fs_inv : ∀ (l : List Nat) (j : Nat) (u : Value), (fs l)[j]? = some u → ∃ k x, l[k]? = some x ∧ ((j = k * 4 ∧ u = .int .u32 (wd x 0 : Nat)) ∨ (j = k * 4 + 1 ∧ u = .int .u32 (wd x 1 : Nat)) ∨ (j = k * 4 + 2 ∧ u = .int .u32 (wd x 2 : Nat)) ∨ (j = k * 4 + 3 ∧ u = .int .u32 (wd x 3 : Nat)))
  | [], j, u, h => by simp [fs_nil] at h
  | y :: l, 0, u, h => ⟨0, y, rfl, .inl ⟨rfl, (Option.some.inj h).symm⟩⟩
  | y :: l, 1, u, h => ⟨0, y, rfl, .inr (.inl ⟨rfl, (Option.some.inj h).symm⟩)⟩
  | y :: l, 2, u, h => ⟨0, y, rfl, .inr (.inr (.inl ⟨rfl, (Option.some.inj h).symm⟩))⟩
  | y :: l, 3, u, h => ⟨0, y, rfl, .inr (.inr (.inr ⟨rfl, (Option.some.inj h).symm⟩))⟩
  | y :: l, j + 4, u, h => by
    obtain ⟨k, x, h1, h2⟩ := fs_inv l j u h
    refine ⟨k + 1, x, by simpa using h1, ?_⟩
    rcases h2 with ⟨e, f⟩ | ⟨e, f⟩ | ⟨e, f⟩ | ⟨e, f⟩
    · exact .inl ⟨by omega, f⟩
    · exact .inr (.inl ⟨by omega, f⟩)
    · exact .inr (.inr (.inl ⟨by omega, f⟩))
    · exact .inr (.inr (.inr ⟨by omega, f⟩))
theorem ss_src {W : World} {b off : Nat} {l : List Nat} (h : SsAt W b off l) : ∀ j u, (fs l)[j]? = some u → W.cell? ((⟨b, off, none⟩ : Addr).add j) = some u := by
  intro j u hj
  rw [add_pl]
  obtain ⟨k, x, hx, e⟩ := fs_inv l j u hj
  obtain ⟨c0, c1, c2, c3⟩ := h k x hx
  rcases e with ⟨rfl, rfl⟩ | ⟨rfl, rfl⟩ | ⟨rfl, rfl⟩ | ⟨rfl, rfl⟩
  · exact c0
  · exact c1
  · exact c2
  · exact c3
theorem rowN (W : World) (cs : Array Value) (t : TypeId) : ∀ j u, cs.toList[j]? = some u → (W.alloc (.cells cs t)).cell? ((⟨W.heap.size, 0, none⟩ : Addr).add j) = some u := by
  intro j u h
  have hg : (W.alloc (.cells cs t)).heap[W.heap.size]? = some (.cells cs t) := new_at rfl
  rw [add_pl, Nat.zero_add, cell_at hg j, ← h]
  simp
theorem sv_mod (A : Nat) : sv A = sv (A % S128) := by
  have e : ∀ k, k < 4 → wd A k = wd (A % S128) k := fun k hk => by
    apply Nat.eq_of_testBit_eq
    intro i
    rw [testBit_wd, testBit_wd, show S128 = 2 ^ 128 from rfl, Nat.testBit_mod_two_pow]
    by_cases h : i < 32
    · rw [decide_eq_true (show 32 * k + i < 128 by omega)]
      simp
    · simp [h]
  unfold sv
  rw [e 0 (by omega), e 1 (by omega), e 2 (by omega), e 3 (by omega)]
theorem eqls0 {x y : Operand} (A : Nat) (w : World) : binRun Try.prog .eql 24 x y (sv A) (sv A) w = .ok (.bool true) w := by
  rw [sv_mod]
  exact eqls rfl (Nat.mod_lt _ (by decide)) w
theorem run_store_in {P : Program} (w : World) (g o : Nat) (t ty : TypeId) (cur vs : List Value) (hg : w.heap[g]? = some (.cells cur.toArray t (0, 0))) (hi : (P.info? ty).map (·.size) = some vs.length) (hf : o + vs.length ≤ cur.length) (h1 : ∀ v ∈ vs, v.oneCell' = true) :
    (Instr.storeAt ty (.pointer (some ⟨g, o, none⟩)) (.agg vs.toArray)).run P w = .ok () (w.setRow g (splice cur o vs).toArray) := by
  have := run_storeCells_at P g o t vs 0 cur.toArray w hg (by simpa using hf) h1
  cases hq : P.info? ty with
  | none => simp [hq] at hi
  | some i =>
    have hs : vs.length = i.size := by simp [hq] at hi; omega
    simp only [Nat.add_zero] at this
    simp [Instr.storeAt, Instr.sureAddr, storeVar, sizeOf, typeInfo, hq, Value.cells, hs, this, splice]
set_option maxHeartbeats 1000000 in
set_option maxRecDepth 100000 in
theorem sameS_any (ad ad' : Option Addr) (cap cap' : Nat) (l : List Nat) (w : World) (h : RdS w ad l) (h' : RdS w ad' l) (hl : l.length ≤ 4611686018427387904) : Calls Try.prog 95 #[.slice ad l.length cap, .slice ad' l.length cap'] w fun e w' => e = .returned (.bool true) ∧ Below w.heap.size w w' := by
  have hmx : Try.prog.follows .mixedOrders = true := by kernel_rfl
  go_enter Try.func95, Try.ntmps95
  go_wp2
  go_loopw [5] (fun c wz => ∃ k : Nat, c = .int .i64 k ∧ k ≤ l.length ∧ Below w.heap.size w wz) (fun c _ => l.length - vnat c)
  case atStart => exact ⟨0, rfl, Nat.zero_le _, Below.refl _ _⟩
  case round =>
    obtain ⟨k, rfl, hk, hbw⟩ := hrel
    by_cases hkl : k < l.length
    · have hki : (k : Int) < (l.length : Int) := by omega
      have hne : l ≠ [] := fun e => by subst e; simp at hkl
      obtain ⟨b, off, rfl, hgl, hat⟩ := h hne
      obtain ⟨b', off', rfl, hgl', hat'⟩ := h' hne
      obtain ⟨x, hx⟩ : ∃ x, l[k]? = some x := ⟨_, List.getElem?_eq_getElem hkl⟩
      go_wp2
      refine wp_region_any hmx ?_
      refine wpAny_pure (fun i__ => ([(.slice (some ⟨b, off, none⟩) l.length cap), (.int .i64 (k : Int)), (.pointer (some ⟨b, off + k * 4, none⟩)), (sv x), (.slice (some ⟨b', off', none⟩) l.length cap'), (.int .i64 (k : Int)), (.pointer (some ⟨b', off' + k * 4, none⟩)), (sv x), (.bool true), (.bool false)] : List Value).getD i__ undef) (fun W => Below w.heap.size w W) (by kernel_rfl) hbw.drew ?_ ?_
      · refine (stepsFrom_cons ?_ (stepsFrom_cons ?_ (stepsFrom_cons ?_ (stepsFrom_cons ?_ (stepsFrom_cons ?_ (stepsFrom_cons ?_ (stepsFrom_cons ?_ (stepsFrom_cons ?_ (stepsFrom_cons ?_ (stepsFrom_cons ?_ trivial))))))))))
        · exact step_move rfl trivial _ rfl (by kernel_rfl)
        · exact step_move rfl trivial _ rfl (by kernel_rfl)
        · exact step_indexAddr rfl trivial _ _ _ _ _ rfl rfl rfl (fun w hw => idx_s b off _ _ k hkl w)
        · exact step_load rfl trivial _ _ _ rfl rfl (fun w hw => load_sk (hat.carry (hw.block _ hgl)) hx)
        · exact step_move rfl trivial _ rfl (by kernel_rfl)
        · exact step_move rfl trivial _ rfl (by kernel_rfl)
        · exact step_indexAddr rfl trivial _ _ _ _ _ rfl rfl rfl (fun w hw => idx_s b' off' _ _ k hkl w)
        · exact step_load rfl trivial _ _ _ rfl rfl (fun w hw => load_sk (hat'.carry (hw.block _ hgl')) hx)
        · exact step_binOp rfl trivial _ _ _ _ _ _ _ rfl rfl rfl (fun w hw => eqls0 x w)
        · exact step_unOp rfl trivial _ _ _ _ rfl rfl (fun w hw => un_not true w)
      intro W hW
      first | refine hK _ _ ?_ | refine (‹∀ (a : Act) (w : World), Code.wp Try.prog _ _ a w → _›) _ _ ?_
      simp only [finL, List.getD_cons_zero, List.getD_cons_succ, Nat.zero_add, Nat.reduceAdd, List.setIfInBounds_toArray, List.set_cons_zero, List.set_cons_succ]
      go_wp2
      go_roundw
      case rel => exact ⟨k + 1, by simp, by omega, hW⟩
      case measure => simp [vnat]; omega
    · have hkk : k = l.length := by omega
      subst hkk
      have hki : ¬ ((l.length : Int) < (l.length : Int)) := by omega
      go_wp2
      go_ret
      exact ⟨rfl, hbw⟩
/-- What is not kept abides. -/
def Px (x : List Value) (k : Nat) : Prop := ∀ (i : Nat) (z : Value), x[i]? = some z → z.ownBlock ≠ some k
structure Bx (x : List Value) (w V : World) : Prop where
  os : V.os = w.os
  tape : V.tape = w.tape
  output : V.output = w.output
  size : w.heap.size ≤ V.heap.size
  block : ∀ k, k < w.heap.size → Px x k → V.heap[k]? = w.heap[k]?
theorem Bx.refl (x : List Value) (w : World) : Bx x w w := ⟨rfl, rfl, rfl, Nat.le_refl _, fun _ _ _ => rfl⟩
theorem Bx.below {x : List Value} {w W V : World} (h : Bx x w W) (hb : Below W.heap.size W V) : Bx x w V := ⟨hb.os.trans h.os, hb.tape.trans h.tape, hb.output.trans h.output, Nat.le_trans h.size hb.size, fun k hk hp => (hb.block k (Nat.lt_of_lt_of_le hk h.size)).trans (h.block k hk hp)⟩
theorem Bx.grown {x : List Value} {w W V : World} {r : Option Nat} (h : Bx x w W) (hg : W.grownBy V r) (hr : ∀ q, r = some q → ¬ Px x q ∨ w.heap.size ≤ q) : Bx x w V := ⟨hg.os.trans h.os, hg.tape.trans h.tape, hg.output.trans h.output, Nat.le_trans h.size hg.size, fun k hk hp => (hg.block k (Nat.lt_of_lt_of_le hk h.size) (fun e => by
  rcases hr k e.symm with q | q
  · exact q hp
  · omega)).trans (h.block k hk hp)⟩
theorem Bx.trans {x : List Value} {w W V : World} (h : Bx x w W) (k : Bx x W V) : Bx x w V := ⟨k.os.trans h.os, k.tape.trans h.tape, k.output.trans h.output, Nat.le_trans h.size k.size, fun j hj hp => (k.block j (Nat.lt_of_lt_of_le hj h.size) hp).trans (h.block j hj hp)⟩
theorem Px.no {x : List Value} {i g : Nat} {z : Value} (h : x[i]? = some z) (hg : z.ownBlock = some g) : ¬ Px x g := fun p => p i z h hg
end Go.Proofs.Ytcdefcaoocnlbaa
