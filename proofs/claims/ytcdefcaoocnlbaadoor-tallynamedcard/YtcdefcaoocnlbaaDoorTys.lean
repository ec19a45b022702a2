/- Two tallies beside each other, the ids gone round. -/
import Derived.Test.YtcdefcaoocnlbaaDoorTyr
import Derived.Test.YtcdefcaoocnlbaaDoorOwn
namespace Go.Proofs.YtcdefcaoocnlbaaDoor
open Go.RowKit Go.Shelf

/-- Both, while replies are taken. -/
def Tw (w : World) (B1 q1 B2 q2 : Nat) (t u : Tl) (V : World) : Prop := ∃ ad1 cap1 ad2 cap2, Ta V B1 q1 ad1 cap1 t ∧ Ta V B2 q2 ad2 cap2 u ∧ (∀ b, ob ad1 = some b → ob ad2 ≠ some b) ∧ Below w.heap.size w V
theorem Tw.carry {w V V' : World} {B1 q1 B2 q2 : Nat} {t u : Tl} (h : Tw w B1 q1 B2 q2 t u V) (hb : Below V.heap.size V V') : Tw w B1 q1 B2 q2 t u V' := by
  obtain ⟨a, b, c, d, h1, h2, h3, h4⟩ := h
  exact ⟨a, b, c, d, h1.carry hb, h2.carry hb, h3, bel2 h4 hb⟩
/-- Another tally stays. -/
theorem tn_ta {W V : World} {B q B' q' cap cap2 : Nat} {ad ad' ad2 : Option Addr} {t u : Tl} (hT : Ta W B q ad cap t) (hn : Tn q (ob ad) (ob ad') W V) (hU : Ta W B' q' ad2 cap2 u) (hq : q' ≠ q) (hap : ∀ b, ob ad = some b → ob ad2 ≠ some b) : Ta V B' q' ad2 cap2 u ∧ (∀ b, ob ad' = some b → ob ad2 ≠ some b) := by
  refine ⟨⟨hU.qb, (hn.block q' hU.lt hq (fun e => row_type hT.row hU.obj (by decide) (by rw [ob_eq]; exact e.symm))).trans hU.obj, row_moved hU.row (fun b e => ?_)⟩, fun b e e2 => ?_⟩
  · refine hn.block b (row_lt2 hU.row b e).2 (fun h => ?_) (fun h => hap b h.symm (by rw [← ob_eq]; exact e))
    subst h
    exact row_type hU.row hT.obj (by decide) e
  · rcases hn.own with h | h
    · exact hap b (h.symm.trans e) e2
    · have h1 := h b e
      have h2 := (row_lt2 hU.row b (by rw [ob_eq]; exact e2)).2
      omega
theorem bin_rt {x y : Operand} {a n : Int} (h0 : 0 ≤ a) (h1 : a < n) (w : World) : binRun Tryd.prog .rem 3 x y (.int .i64 (a + 1)) (.int .i64 n) w = .ok (.int .i64 (rt n a)) w := by
  obtain ⟨i, rfl⟩ := Int.eq_ofNat_of_zero_le h0
  obtain ⟨m, rfl⟩ := Int.eq_ofNat_of_zero_le (show 0 ≤ n by omega)
  have := bin_rem64 (P := Tryd.prog) (t := 3) (x := x) (y := y) (w := w) (i + 1) m (by omega)
  have e : (((i + 1) % m : Nat) : Int) = rt (m : Int) (i : Int) := by
    rw [← rt_tmod h0 h1, Int.tmod_eq_emod_of_nonneg (by omega)]
    simp
  rw [e] at this
  exact this
theorem build_s0 (w : World) : (Instr.build 29 #[]).run Tryd.prog w = .ok (sv 0) w := by kernel_rfl
theorem stepG_b0 {G : Type} {P : Program} {md : Region.Mode} {ops : Array Oper} {Q : Exit → Act → World → Prop} {X0 : Array Value} {val : G → Nat → Value} {J : G → (Nat → Bool) → World → Prop} {i : Nat} {o : Oper} (hi : ops[i]? = some o) (hg : o.guard = none) (t : TypeId) (ho : o.op = .build t #[])
    (h : ∀ g d w, J g d w → d i = false → (Instr.build t #[]).run P w = .ok (val g i) w ∧ J g (fun j => if j = i then true else d j) w) : StepG P md ops Q X0 val J i o := by
  intro g d a w hJ hun hdep hcl hS
  obtain ⟨h1, h3⟩ := h g d w hJ hun
  unfold wpOp
  rw [hi]
  simp only [Region.wanted, hg, if_true]
  refine .inl ?_
  unfold Oper.wp execOp
  simp only [ho, List.map_toArray, List.map_nil, Sem.run_bind, h1, Result.andThen_ok, Sem.run_pure, Oper.upon_value]
  exact ⟨g, fun _ _ => rfl, rfl, h3⟩
theorem eqB_t2 (x y : Operand) (w : World) (b : Bool) : binRun Tryd.prog .eql 4 x y (.bool b) (.bool b) w = .ok (.bool true) w := by cases b <;> kernel_rfl
theorem trn_snoc (n : Int) (l : List Nat) (k x : Nat) (h : l[k]? = some x) : trn n (l.take (k + 1)) = trn n (l.take k) ++ [rt n (x : Int)] := by
  have e : l.take (k + 1) = l.take k ++ [x] := by rw [List.take_add_one, h]; rfl
  rw [e, trn, List.map_append]
  rfl
theorem one_srcI {W : World} {b : Nat} {f : Int} (h : W.heap[b]? = some (.cells #[.int .i64 f] 3 (0, 0))) : ∀ j u, (inV [f])[j]? = some u → W.cell? ((⟨b, 0, none⟩ : Addr).add j) = some u := fun j u hj => by
  rw [add_pl, Nat.zero_add, cell_at h]
  have e : (inV [f]) = (#[Value.int .i64 f] : Array Value).toList := rfl
  rw [e] at hj
  simpa using hj
theorem idx_i (g off n cap k : Nat) (h : k < n) (w : World) : (Instr.indexAt 35 (.slice (some ⟨g, off, none⟩) n cap) (.int .i64 (k : Int))).run Tryd.prog w = .ok (.pointer (some ⟨g, off + k, none⟩)) w := by
  have h1 : (k : Int) < (n : Int) := by omega
  go_simp
theorem ids_lt {R : Nat} (h : R < S100) {i : Nat} (hi : i ∈ idsTo R 128) : i < 100 := by
  have h2 : R.testBit i = true := by
    have : i < 128 ∧ R.testBit i = true := by simpa [idsTo] using hi
    exact this.2
  rcases Nat.lt_or_ge i 100 with q | q
  · exact q
  · rw [Nat.testBit_lt_two_pow (Nat.lt_of_lt_of_le h (Nat.pow_le_pow_right (n := 2) (by decide) q))] at h2
    cases h2
end Go.Proofs.YtcdefcaoocnlbaaDoor
