/- A []byte, a note of the document's, handed in. -/
import Derived.Test.YtnomeinppdnhfaaGreatOpn
import Derived.Test.YtnomeinppdnhfaaGreatJnJ3
import Derived.Test.YtnomeinppdnhfaaGreatWrb
import Derived.ChangeSlices
import Derived.Test.YtnomeinppdnhfaaGreatWrx
import Derived.Test.YtnomeinppdnhfaaGreatJnJ2
import Derived.Test.YtnomeinppdnhfaaGreatJnJ1
import Derived.Test.YtnomeinppdnhfaaGreatKpzBN
namespace Go.Proofs.YtnomeinppdnhfaaGreat
open Go.ChangeShapes Go.WideShapes Go.ChangeAt Go.RowKit

theorem wf_u8 {z : Int} (h : (Lit.int .u8 z).wf = true) : 0 ≤ z ∧ z < 256 := by
  simp [Lit.wf] at h
  have h1 : IntKind.u8.min = 0 := rfl
  have h2 : IntKind.u8.max = 255 := rfl
  omega
set_option maxRecDepth 100000 in
theorem open_bytes {H : Type} {enc : TypeId × Value → H} {W : World} {base : Nat} {v : Value} {d : DataW H} {p : List MemPlace} (hval : Value.okWide Tryz.prog W .any base 46 v)
    (h : DataW.Trod enc Tryz.prog W 0 (fun _ => true) true 46 v d p) : ∃ (ad : Option Addr) (cap : Nat) (l : List Nat), v = .slice ad l.length cap ∧ RdB W ad l ∧ Byt l ∧ l.length ≤ cap ∧ cap ≤ maxLen := by
  obtain ⟨a0, len0, cap0, rfl⟩ := okWide_slice Tryz.underlying46 hval
  obtain ⟨fuel, hf⟩ := h
  rcases open_ints Tryz.underlying46 Tryz.underlying5 (by kernel_rfl) hf with ⟨hcs, _⟩ | ⟨x, l, c, zs, hcs, _, hl, hm, hz, _, hcell, hwz⟩
  · simp [Value.cells] at hcs
    obtain ⟨rfl, rfl, rfl⟩ := hcs
    exact ⟨none, 0, [], rfl, fun h => absurd rfl h, byt_nil, Nat.le_refl _, by unfold maxLen; simp⟩
  · simp [Value.cells] at hcs
    obtain ⟨rfl, rfl, rfl⟩ := hcs
    have hz' : zs.length = cap0 := by simpa using hz
    have hlen : ((zs.take len0).map Int.toNat).length = len0 := by simp; omega
    have hzw : ∀ z ∈ zs, 0 ≤ z ∧ z < 256 := fun z hzm => wf_u8 (hwz z hzm)
    refine ⟨some x, cap0, (zs.take len0).map Int.toNat, by rw [hlen], fun hne => ?_, ?_, by rw [hlen]; exact hl, hm⟩
    · have hpos : 0 < len0 := by
        cases len0 with
        | zero => simp at hne
        | succ n => omega
      obtain ⟨b, off, s⟩ := x
      have c0 := hcell 0 (by omega)
      have hs : s = none := by
        have := World.cell?_spot c0
        simpa [Addr.add] using this
      subst hs
      have hadd : ∀ j, (⟨b, off, none⟩ : Addr).add j = ⟨b, off + j, none⟩ := fun j => add_pl b off j
      refine ⟨b, off, rfl, ?_, fun k y hy => ?_⟩
      · have := cell_ltM c0
        rw [hadd] at this
        exact this
      · rw [List.getElem?_map] at hy
        obtain ⟨z, hz1, rfl⟩ := Option.map_eq_some_iff.1 hy
        rw [List.getElem?_take] at hz1
        split at hz1
        · rename_i hk
          have hzm := hzw z (List.mem_of_getElem? hz1)
          have := hcell k (by omega)
          rw [hadd, List.getD_eq_getElem?_getD, hz1] at this
          rw [this, Int.toNat_of_nonneg hzm.1]
          rfl
        · cases hz1
    · intro y hy
      obtain ⟨z, hz1, rfl⟩ := List.mem_map.1 hy
      have := hzw z (List.mem_of_mem_take hz1)
      omega
set_option maxRecDepth 100000 in
theorem nts_of_trod {H : Type} {enc : TypeId × Value → H} {W : World} {fuel : Nat} {c : Value} {x : DataW H × List MemPlace}
    (hf : DataW.trod enc Tryz.prog W 0 (fun _ => true) true fuel 42 [c] = some x) : ∃ (ad : Option Addr) (cap : Nat) (l : List (Int × Int × Int)), c = .slice ad l.length cap ∧ RdN W ad l ∧ (ad = none → cap = 0) ∧ l.length ≤ cap := by
  rcases Deep.open_slice Tryz.underlying42 hf with ⟨hcs, _⟩ | ⟨a, len0, cap0, m, n, D, Pl, hcs, _, hlc, hcm, hmm, hx, hel⟩
  · simp only [List.cons.injEq, and_true] at hcs
    subst hcs
    exact ⟨none, 0, [], rfl, fun h => absurd rfl h, fun _ => rfl, Nat.le_refl _⟩
  · simp only [List.cons.injEq, and_true] at hcs
    subst hcs
    have hm : m = cap0 := by simpa using hmm
    have each : ∀ i, i < len0 → ∃ x : Int × Int × Int, W.cell? (a.add (i * 3)) = some (.int .i64 x.1) ∧ W.cell? (a.add (i * 3 + 1)) = some (.int .i64 x.2.1) ∧ W.cell? (a.add (i * 3 + 2)) = some (.int .i64 x.2.2) := by
      intro i hi
      obtain ⟨cs, h1, h2⟩ := hel i (by omega)
      rw [cellsNM] at h1
      obtain ⟨_, hlen, hcell⟩ := World.cells?_some h1
      obtain ⟨o, t, k, rfl⟩ := one_nt hlen h2
      have e0 := hcell 0 (by omega)
      have e1 := hcell 1 (by omega)
      have e2 := hcell 2 (by omega)
      rw [Deep.add_add] at e0 e1 e2
      exact ⟨(o, t, k), by simpa using e0, by simpa using e1, by simpa using e2⟩
    obtain ⟨q, hq⟩ := Deep.choose_lt each
    refine ⟨some a, cap0, (List.range len0).map q, by simp, fun hne => ?_, (by intro e; cases e), (by simpa using hlc)⟩
    have hpos : 0 < len0 := by
      cases len0 with
      | zero => simp at hne
      | succ n => omega
    obtain ⟨b', off', x'⟩ := a
    have hx' : x' = none := by simpa [Addr.add] using World.cell?_spot (hq 0 hpos).1
    subst hx'
    have hadd : ∀ j, (⟨b', off', none⟩ : Addr).add j = ⟨b', off' + j, none⟩ := fun j => by unfold Addr.add; split <;> simp_all
    refine ⟨b', off', rfl, ?_, fun k y hy => ?_⟩
    · have := cell_ltM (hq 0 hpos).1
      rw [hadd] at this
      exact this
    · rw [List.getElem?_map] at hy
      obtain ⟨k', hk', rfl⟩ := Option.map_eq_some_iff.1 hy
      have hk := (List.getElem?_eq_some_iff.1 hk').1
      simp at hk
      have hkk : k' = k := by
        rw [List.getElem?_range hk] at hk'
        exact (Option.some.inj hk').symm
      subst hkk
      obtain ⟨c0, c1, c2⟩ := hq k' hk
      rw [hadd] at c0 c1 c2
      exact ⟨c0, by simpa [Nat.add_assoc] using c1, by simpa [Nat.add_assoc] using c2⟩
theorem cellsSW : Tryz.prog.cellsOf 41 = 4 := by kernel_rfl
theorem cellsSl : Tryz.prog.cellsOf 42 = 1 := by kernel_rfl
theorem cellsRN : Tryz.prog.cellsOf 44 = 8 := by kernel_rfl
/-- A note of the document's. -/
def rnv (k f r : Int) (N : Nat) (v : Value) : Value := .agg #[.int .i64 k, .int .i64 f, .int .i64 r, .int .u32 (wd N 0 : Nat), .int .u32 (wd N 1 : Nat), .int .u32 (wd N 2 : Nat), .int .u32 (wd N 3 : Nat), v]
set_option maxRecDepth 100000 in
theorem open_note {H : Type} {enc : TypeId × Value → H} {W : World} {base : Nat} {v : Value} {d : DataW H} {p : List MemPlace} (hval : Value.okWide Tryz.prog W .any base 44 v)
    (h : DataW.Trod enc Tryz.prog W 0 (fun _ => true) true 44 v d p) : ∃ (k f r : Int) (N : Nat) (ad : Option Addr) (cap : Nat) (l : List (Int × Int × Int)), v = rnv k f r N (.slice ad l.length cap) ∧ N < S128 ∧ (Lit.int .i64 k).wf = true ∧ (Lit.int .i64 f).wf = true ∧ (Lit.int .i64 r).wf = true ∧ RdN W ad l ∧ (ad = none → cap = 0) ∧ l.length ≤ cap := by
  obtain ⟨cs, rfl, hsz, _⟩ : ∃ cs, v = .agg cs ∧ cs.size = Tryz.prog.cellsOf 44 ∧ Row.okWide Tryz.prog W .any base 44 cs := by
    simpa [Value.okWide, Tryz.underlying44] using hval
  rw [cellsRN] at hsz
  obtain ⟨l⟩ := cs
  obtain ⟨c0, c1, c2, c3, c4, c5, c6, c7, rfl⟩ : ∃ c0 c1 c2 c3 c4 c5 c6 c7, l = [c0, c1, c2, c3, c4, c5, c6, c7] := by
    match l, hsz with
    | [c0, c1, c2, c3, c4, c5, c6, c7], _ => exact ⟨_, _, _, _, _, _, _, _, rfl⟩
  obtain ⟨fuel, hf⟩ := h
  obtain ⟨xs, n, _, _, _, hlen, hfs⟩ := DataW.trod_struct Tryz.underlying44 hf
  match xs, hlen with
  | [y0, y1, y2, y3, y4], _ =>
    have g0 := hfs 0 _ rfl
    have g1 := hfs 1 _ rfl
    have g2 := hfs 2 _ rfl
    have g3 := hfs 3 _ rfl
    have g4 := hfs 4 _ rfl
    simp [Value.cells, cellsIM, cellsSW, cellsSl] at g0 g1 g2 g3 g4
    obtain ⟨x0, e0, rfl, w0⟩ := DataW.trod_int Tryz.underlying3 g0
    obtain ⟨x1, e1, rfl, w1⟩ := DataW.trod_int Tryz.underlying3 g1
    obtain ⟨x2, e2, rfl, w2⟩ := DataW.trod_int Tryz.underlying3 g2
    obtain ⟨z0, z1, z2, z3, m, hx, hy0, hy1, hy2, hy3⟩ := trod_array4 Tryz.underlying41 cellsW g3
    obtain ⟨u0, f0, rfl, v0⟩ := DataW.trod_int Tryz.underlying39 hy0
    obtain ⟨u1, f1, rfl, v1⟩ := DataW.trod_int Tryz.underlying39 hy1
    obtain ⟨u2, f2, rfl, v2⟩ := DataW.trod_int Tryz.underlying39 hy2
    obtain ⟨u3, f3, rfl, v3⟩ := DataW.trod_int Tryz.underlying39 hy3
    simp at e0 e1 e2 f0 f1 f2 f3
    subst e0 e1 e2 f0 f1 f2 f3
    obtain ⟨ad, cap, l, rfl, hr, hc, hlc⟩ := nts_of_trod g4
    obtain ⟨n0, rfl, b0⟩ := nat_of_u32 v0
    obtain ⟨n1, rfl, b1⟩ := nat_of_u32 v1
    obtain ⟨n2, rfl, b2⟩ := nat_of_u32 v2
    obtain ⟨n3, rfl, b3⟩ := nat_of_u32 v3
    refine ⟨x0, x1, x2, joinW n0 n1 n2 n3, ad, cap, l, ?_, join_lt _ _ _ _ b0 b1 b2 b3, w0, w1, w2, hr, hc, hlc⟩
    rw [rnv, wd_join0 _ _ _ _ b0, wd_join1 _ _ _ _ b0 b1, wd_join2 _ _ _ _ b0 b1 b2, wd_join3 _ _ _ _ b0 b1 b2 b3]
end Go.Proofs.YtnomeinppdnhfaaGreat
namespace Go.Proofs.YtnomeinppdnhfaaGreat
open Go.RowKit Go.Shelf

def qZ : Value := .agg #[.int .i64 0, .int .i64 0, .slice none 0 0]
def pZ : Value := .agg #[.int .i64 0, .int .i64 0, .int .u32 0, .int .u32 0, .int .u32 0, .int .u32 0, .slice none 0 0]
def uZ : Value := .agg #[.int .i64 0, .slice none 0 0]
theorem asQ_Q (v : Value) (w : World) : (Instr.typeAssert (.iface 70 v) 50 70 true).run Tryz.prog w = .ok (.tuple #[v, .bool true]) w := by kernel_rfl
theorem asQ_P (v : Value) (w : World) : (Instr.typeAssert (.iface 70 v) 50 73 true).run Tryz.prog w = .ok (.tuple #[pZ, .bool false]) w := by kernel_rfl
theorem asQ_U (v : Value) (w : World) : (Instr.typeAssert (.iface 70 v) 50 75 true).run Tryz.prog w = .ok (.tuple #[uZ, .bool false]) w := by kernel_rfl
theorem asP_Q (v : Value) (w : World) : (Instr.typeAssert (.iface 73 v) 50 70 true).run Tryz.prog w = .ok (.tuple #[qZ, .bool false]) w := by kernel_rfl
theorem asP_P (v : Value) (w : World) : (Instr.typeAssert (.iface 73 v) 50 73 true).run Tryz.prog w = .ok (.tuple #[v, .bool true]) w := by kernel_rfl
theorem asP_U (v : Value) (w : World) : (Instr.typeAssert (.iface 73 v) 50 75 true).run Tryz.prog w = .ok (.tuple #[uZ, .bool false]) w := by kernel_rfl
theorem asU_Q (v : Value) (w : World) : (Instr.typeAssert (.iface 75 v) 50 70 true).run Tryz.prog w = .ok (.tuple #[qZ, .bool false]) w := by kernel_rfl
theorem asU_P (v : Value) (w : World) : (Instr.typeAssert (.iface 75 v) 50 73 true).run Tryz.prog w = .ok (.tuple #[pZ, .bool false]) w := by kernel_rfl
theorem asU_U (v : Value) (w : World) : (Instr.typeAssert (.iface 75 v) 50 75 true).run Tryz.prog w = .ok (.tuple #[v, .bool true]) w := by kernel_rfl
theorem asN_Q (w : World) : (Instr.typeAssert .nilIface 50 70 true).run Tryz.prog w = .ok (.tuple #[qZ, .bool false]) w := by kernel_rfl
theorem asN_P (w : World) : (Instr.typeAssert .nilIface 50 73 true).run Tryz.prog w = .ok (.tuple #[pZ, .bool false]) w := by kernel_rfl
theorem asN_U (w : World) : (Instr.typeAssert .nilIface 50 75 true).run Tryz.prog w = .ok (.tuple #[uZ, .bool false]) w := by kernel_rfl
theorem nil_no (t : TypeId) (v : Value) (w : World) : (binOp .eql 50 (.iface t v) .nilIface).run Tryz.prog w = .ok (.bool false) w := by kernel_rfl
theorem nil_yes (w : World) : (binOp .eql 50 .nilIface .nilIface).run Tryz.prog w = .ok (.bool true) w := by kernel_rfl
theorem invQ_Kind (v : Value) (w : World) : (method 292 70 v "Kind").run Tryz.prog w = .ok (137, v) w := by kernel_rfl
theorem invQ_Sender (v : Value) (w : World) : (method 292 70 v "Sender").run Tryz.prog w = .ok (139, v) w := by kernel_rfl
theorem invQ_Bytes (v : Value) (w : World) : (method 292 70 v "Bytes").run Tryz.prog w = .ok (17, v) w := by kernel_rfl
theorem invQ_Notices (v : Value) (w : World) : (method 292 70 v "Notices").run Tryz.prog w = .ok (138, v) w := by kernel_rfl
theorem invP_Kind (v : Value) (w : World) : (method 292 73 v "Kind").run Tryz.prog w = .ok (144, v) w := by kernel_rfl
theorem invP_Sender (v : Value) (w : World) : (method 292 73 v "Sender").run Tryz.prog w = .ok (146, v) w := by kernel_rfl
theorem invP_Bytes (v : Value) (w : World) : (method 292 73 v "Bytes").run Tryz.prog w = .ok (143, v) w := by kernel_rfl
theorem invP_Notices (v : Value) (w : World) : (method 292 73 v "Notices").run Tryz.prog w = .ok (145, v) w := by kernel_rfl
theorem invU_Kind (v : Value) (w : World) : (method 292 75 v "Kind").run Tryz.prog w = .ok (150, v) w := by kernel_rfl
theorem invU_Sender (v : Value) (w : World) : (method 292 75 v "Sender").run Tryz.prog w = .ok (152, v) w := by kernel_rfl
theorem invU_Bytes (v : Value) (w : World) : (method 292 75 v "Bytes").run Tryz.prog w = .ok (149, v) w := by kernel_rfl
theorem invU_Notices (v : Value) (w : World) : (method 292 75 v "Notices").run Tryz.prog w = .ok (151, v) w := by kernel_rfl
end Go.Proofs.YtnomeinppdnhfaaGreat
namespace Go.Proofs.YtnomeinppdnhfaaGreat
open Go.RowKit Go.Shelf

theorem idx_bz (b off len cap k : Nat) (h : k < len) (W : World) : (Instr.indexAt 46 (.slice (some ⟨b, off, none⟩) len cap) (.int .i64 (k : Int))).run Tryz.prog W = .ok (.pointer (some ⟨b, off + k, none⟩)) W := idx_b b off len cap k h W
theorem un_notB (x : Bool) (w : World) : (Op.unary .not (.bool x)).run Tryz.prog w = .ok (.bool (!x)) w := rfl
set_option maxHeartbeats 1000000 in
set_option maxRecDepth 100000 in
theorem sameB_yes (ad ad' : Option Addr) (cap cap' : Nat) (l : List Nat) (w : World) (h : RdB w ad l) (h' : RdB w ad' l) (hl : l.length ≤ 4611686018427387904) : Calls Tryz.prog 8 #[.slice ad l.length cap, .slice ad' l.length cap'] w fun e w' => e = .returned (.bool true) ∧ Below w.heap.size w w' := by
  have hmx : Tryz.prog.follows .mixedOrders = true := by kernel_rfl
  go_enter Tryz.func8, Tryz.ntmps8
  go_wp2
  go_loopw [5] (fun c wz => ∃ k : Nat, c = .int .i64 k ∧ k ≤ l.length ∧ Below w.heap.size w wz) (fun c _ => l.length - vnatW c)
  case atStart => exact ⟨0, rfl, Nat.zero_le _, Below.refl _ _⟩
  case round =>
    obtain ⟨k, rfl, hk, hbw⟩ := hrel
    by_cases hkl : k < l.length
    · have hki : (k : Int) < (l.length : Int) := by omega
      have hne : l ≠ [] := fun e => by subst e; simp at hkl
      obtain ⟨g, off, rfl, hgl, hat⟩ := h hne
      obtain ⟨g', off', rfl, hgl', hat'⟩ := h' hne
      obtain ⟨x, hx⟩ := get_lt hkl
      have c0 := hat k x hx
      have c0' := hat' k x hx
      go_wp2
      refine wp_region_any hmx ?_
      refine wpAny_pure (fun i__ => ([(.slice (some ⟨g, off, none⟩) l.length cap), (.int .i64 (k : Int)), (.pointer (some ⟨g, off + k, none⟩)), (.int .u8 (x : Int)), (.slice (some ⟨g', off', none⟩) l.length cap'), (.int .i64 (k : Int)), (.pointer (some ⟨g', off' + k, none⟩)), (.int .u8 (x : Int)), (.bool true), (.bool false)] : List Value).getD i__ undef) (fun W => Below w.heap.size w W) (by kernel_rfl) hbw.drew ?_ ?_
      · refine (stepsFrom_cons ?_ (stepsFrom_cons ?_ (stepsFrom_cons ?_ (stepsFrom_cons ?_ (stepsFrom_cons ?_ (stepsFrom_cons ?_ (stepsFrom_cons ?_ (stepsFrom_cons ?_ (stepsFrom_cons ?_ (stepsFrom_cons ?_ trivial))))))))))
        · exact step_move rfl trivial _ rfl (by kernel_rfl)
        · exact step_move rfl trivial _ rfl (by kernel_rfl)
        · exact step_indexAddr rfl trivial _ _ _ _ _ rfl rfl rfl (fun w hw => idx_bz g off _ _ k hkl w)
        · exact step_load rfl trivial _ _ _ rfl rfl (fun w hw => load_b ((hw.cell (p := ⟨g, off + k, none⟩) hgl).trans c0))
        · exact step_move rfl trivial _ rfl (by kernel_rfl)
        · exact step_move rfl trivial _ rfl (by kernel_rfl)
        · exact step_indexAddr rfl trivial _ _ _ _ _ rfl rfl rfl (fun w hw => idx_bz g' off' _ _ k hkl w)
        · exact step_load rfl trivial _ _ _ rfl rfl (fun w hw => load_b ((hw.cell (p := ⟨g', off' + k, none⟩) hgl').trans c0'))
        · exact step_binOp rfl trivial _ _ _ _ _ _ _ rfl rfl rfl (fun w hw => (bin_eql .u8 _ _).trans (by simp))
        · exact step_unOp rfl trivial _ _ _ _ rfl rfl (fun w hw => un_notB true w)
      intro W hW
      first | refine hK _ _ ?_ | refine (‹∀ (a : Act) (w : World), Code.wp Tryz.prog _ _ a w → _›) _ _ ?_ | skip
      simp only [finL, List.getD_cons_zero, List.getD_cons_succ, Nat.zero_add, Nat.reduceAdd, List.setIfInBounds_toArray, List.set_cons_zero, List.set_cons_succ]
      go_wp2
      go_roundw
      case rel => exact ⟨k + 1, by simp, by omega, hW⟩
      case measure => simp [vnatW]; omega
    · have hkk : k = l.length := by omega
      subst hkk
      have hki : ¬ ((l.length : Int) < (l.length : Int)) := by omega
      go_wp2
      go_ret
      exact ⟨rfl, hbw⟩
end Go.Proofs.YtnomeinppdnhfaaGreat
namespace Go.Proofs.YtnomeinppdnhfaaGreat
open Go.RowKit Go.Shelf

theorem RdN.own {W : World} {base : Nat} {a : Option Addr} {c : Nat} {l : List (Int × Int × Int)} (h : W.ownsRow base 80 3 (.slice a l.length c) l.length (fl l)) : RdN W a l := by
  intro hne
  rcases own_form h with ⟨_, e⟩ | ⟨g, cap, e, h1, h2, h3⟩
  · exact absurd (List.length_eq_zero_iff.1 e) hne
  · cases e
    exact ⟨g, 0, rfl, h2, nts_own h rfl⟩
theorem bo_ok {kd fr rd N : Nat} {n : Int} {l : List (Int × Int × Int)} {W W' : World} {e : Ending} (h : BO kd n fr rd N l W e W') (hf : flt kd n fr rd N l = 0) : ∃ b2 c2, e = .returned (.tuple #[.slice b2 (byt7 kd n.toNat fr rd N l).length c2, .int .i64 0]) ∧ W'.ownsRow W.heap.size 5 1 (.slice b2 (byt7 kd n.toNat fr rd N l).length c2) (byt7 kd n.toNat fr rd N l).length (cB (byt7 kd n.toNat fr rd N l)) ∧ RdB W' b2 (byt7 kd n.toNat fr rd N l) ∧ (byt7 kd n.toNat fr rd N l).length ≤ c2 ∧ Below W.heap.size W W' := by
  obtain ⟨b, rfl, ho, hb⟩ := h
  rw [fb7, if_pos hf, Int.toNat_natCast, Int.toNat_natCast] at ho
  have ho2 := ho.out
  obtain ⟨ad, cap, rfl, hr⟩ := RdB.own ho2
  refine ⟨ad, cap, by rw [hf], ho2, hr, ?_, hb⟩
  rcases own_form ho2 with ⟨e1, e2⟩ | ⟨g, c, e1, _, _, h3⟩
  · omega
  · cases e1
    exact h3
theorem bo_no {kd N : Nat} {n fr rd : Int} {l : List (Int × Int × Int)} {W W' : World} {e : Ending} (h : BO kd n fr rd N l W e W') (hf : ¬ flt kd n fr rd N l = 0) : ∃ b2 c2, e = .returned (.tuple #[.slice b2 0 c2, .int .i64 (flt kd n fr rd N l)]) ∧ Below W.heap.size W W' := by
  obtain ⟨b, rfl, ho, hb⟩ := h
  rw [fb7, if_neg hf] at ho
  rcases own_form ho.out with ⟨rfl, _⟩ | ⟨g, c, rfl, _, _, _⟩
  · exact ⟨none, 0, rfl, hb⟩
  · exact ⟨_, c, rfl, hb⟩
end Go.Proofs.YtnomeinppdnhfaaGreat
namespace Go.Proofs.YtnomeinppdnhfaaGreat
open Go.RowKit Go.Shelf

theorem al2x (w : World) (a b : Obj) : Below w.heap.size w ((w.alloc a).alloc b) := ((Below.refl w.heap.size w).alloc (Nat.le_refl _) a).alloc (by simp) b
theorem retRN {f : Func} {q : Tmp} {R : Ending → World → Prop} {a : Act} {w : World} {b : Nat} {k fr rd : Int} {N : Nat} {v : Value} (hres : f.results = #[.cell q 44]) (hp : a.tmps.getD q undef = .pointer (some ⟨b, 0, none⟩)) (hd : a.defers = []) (h : w.heap[b]? = some (.cells #[.int .i64 k, .int .i64 fr, .int .i64 rd, .int .u32 (wd N 0 : Nat), .int .u32 (wd N 1 : Nat), .int .u32 (wd N 2 : Nat), .int .u32 (wd N 3 : Nat), v] 44 (0, 0))) (hR : R (.returned (rnv k fr rd N v)) w) : bodyPost Tryz.prog f R .ret a w :=
  bodyPost_ret (results_cell_row hres a.tmps w b _ _ (0, 0) _ hp h Tryz.underlying44 rfl (by kernel_rfl)) hd hR
def kdN (k : Int) : Nat := if k = 1 then 1 else if k = 2 then 2 else 3
def krN (k r : Int) : Int := if k = 1 ∨ k = 2 then r else 0
def kNN (k : Int) (N : Nat) : Nat := if k = 2 then N else 0
set_option maxHeartbeats 1000000 in
set_option maxRecDepth 100000 in
theorem kind_any (k f r : Int) (N : Nat) (a : Option Addr) (m c : Nat) (w : World) : Calls Tryz.prog 5 #[rnv k f r N (.slice a m c)] w fun e w' => e = .returned (rnv (kdN k) f (krN k r) (kNN k N) (.slice a m c)) ∧ Below w.heap.size w w' := by
  by_cases h1 : k = 1
  · subst h1
    rw [show kdN 1 = 1 from rfl, show krN 1 r = r from rfl, show kNN 1 N = 0 from rfl]
    unfold rnv
    go_enter Tryz.func5, Tryz.ntmps5
    go_wp2
    exact retRN (N := 0) rfl rfl rfl (new_at (by simp)) ⟨by simp [rnv], al2x w _ _⟩
  by_cases h2 : k = 2
  · subst h2
    rw [show kdN 2 = 2 from rfl, show krN 2 r = r from rfl, show kNN 2 N = N from rfl]
    unfold rnv
    go_enter Tryz.func5, Tryz.ntmps5
    go_wp2
    exact retRN (N := N) rfl rfl rfl (new_at (by simp)) ⟨by simp [rnv], al2x w _ _⟩
  rw [show kdN k = 3 by rw [kdN, if_neg h1, if_neg h2], show krN k r = 0 from if_neg (by omega), show kNN k N = 0 from if_neg h2]
  unfold rnv
  by_cases h3 : k < 1
  · go_enter Tryz.func5, Tryz.ntmps5
    go_wp2
    exact retRN (N := 0) rfl rfl rfl (new_at (by simp)) ⟨by simp [rnv], al2x w _ _⟩
  by_cases h4 : 3 < k
  · go_enter Tryz.func5, Tryz.ntmps5
    go_wp2
    exact retRN (N := 0) rfl rfl rfl (new_at (by simp)) ⟨by simp [rnv], al2x w _ _⟩
  obtain rfl : k = 3 := by omega
  go_enter Tryz.func5, Tryz.ntmps5
  go_wp2
  exact retRN (N := 0) rfl rfl rfl (new_at (by simp)) ⟨by simp [rnv], al2x w _ _⟩
set_option maxHeartbeats 1000000 in
set_option maxRecDepth 100000 in
theorem lay_any (kd : Nat) (f r : Int) (N : Nat) (a : Option Addr) (m c : Nat) (w : World) : Calls Tryz.prog 6 #[rnv kd f r N (.slice a m c)] w fun e w' => e = .returned (noteV kd f r N (.slice a m c)) ∧ Below w.heap.size w w' := by
  unfold noteV rnv
  by_cases h1 : kd = 1
  · rw [if_pos h1]
    subst h1
    go_enter Tryz.func6, Tryz.ntmps6
    go_wp2
    go_ret
    exact ⟨rfl, al1' w _⟩
  rw [if_neg h1]
  by_cases h2 : kd = 2
  · rw [if_pos h2]
    subst h2
    go_enter Tryz.func6, Tryz.ntmps6
    go_wp2
    go_ret
    exact ⟨rfl, al1' w _⟩
  rw [if_neg h2]
  have q1 : ((kd : Int) == 1) = false := by simp; omega
  have q2 : ((kd : Int) == 2) = false := by simp; omega
  go_enter Tryz.func6, Tryz.ntmps6
  go_wp2
  go_ret
  exact ⟨rfl, al1' w _⟩
theorem res2b {tmps : Array Value} {W : World} {a : Nat} {k fr rd : Int} {N : Nat} {v : Value} {y : Value} (h4 : tmps[2]?.getD undef = .pointer (some ⟨a, 0, none⟩)) (h5 : tmps[3]?.getD undef = y) (hx : W.heap[a]? = some (.cells #[.int .i64 k, .int .i64 fr, .int .i64 rd, .int .u32 (wd N 0 : Nat), .int .u32 (wd N 1 : Nat), .int .u32 (wd N 2 : Nat), .int .u32 (wd N 3 : Nat), v] 44 (0, 0))) : (results Tryz.f11 tmps).run Tryz.prog W = .ok (.tuple #[rnv k fr rd N v, y]) W := by
  have c0 := cell_at hx 0
  have c1 := cell_at hx 1
  have c2 := cell_at hx 2
  have c3 := cell_at hx 3
  have c4 := cell_at hx 4
  have c5 := cell_at hx 5
  have c6 := cell_at hx 6
  have c7 := cell_at hx 7
  simp at c0 c1 c2 c3 c4 c5 c6 c7
  simp [results, Tryz.results11, go_sem, h4, h5, c0, c1, c2, c3, c4, c5, c6, c7, rnv]
theorem as_nil (w : World) : Calls Tryz.prog 11 #[.nilIface] w fun e w' => e = .returned (.tuple #[rnv 0 0 0 0 (.slice none 0 0), .bool false]) ∧ Below w.heap.size w w' := by
  have s1 := asN_Q
  have s2 := asN_P
  have s3 := asN_U
  unfold qZ at s1
  unfold pZ at s2
  unfold uZ at s3
  go_enter Tryz.func11, Tryz.ntmps11
  go_wp2
  exact bodyPost_ret (res2b (N := 0) rfl rfl (new_at (by simp))) rfl ⟨rfl, al1' w _⟩
set_option maxHeartbeats 1000000 in
set_option maxRecDepth 100000 in
theorem as_any (kd : Nat) (hk : 1 ≤ kd ∧ kd ≤ 3) (f r : Int) (N : Nat) (h3 : kd = 3 → r = 0) (h2 : kd ≠ 2 → N = 0) (a : Option Addr) (m c : Nat) (w : World) : Calls Tryz.prog 11 #[noteV kd f r N (.slice a m c)] w fun e w' => e = .returned (.tuple #[rnv kd f r N (.slice a m c), .bool true]) ∧ Below w.heap.size w w' := by
  rcases (show kd = 1 ∨ kd = 2 ∨ kd = 3 by omega) with rfl | rfl | rfl
  · obtain rfl : N = 0 := h2 (by decide)
    rw [show noteV 1 f r 0 (.slice a m c) = .iface 70 (.agg #[.int .i64 f, .int .i64 r, .slice a m c]) from rfl]
    have s1 := asQ_Q
    go_enter Tryz.func11, Tryz.ntmps11
    go_wp2
    exact bodyPost_ret (res2b (N := 0) rfl rfl (old_at (new_at rfl))) rfl ⟨rfl, al2x w _ _⟩
  · rw [show noteV 2 f r N (.slice a m c) = .iface 73 (.agg #[.int .i64 f, .int .i64 r, .int .u32 (wd N 0 : Nat), .int .u32 (wd N 1 : Nat), .int .u32 (wd N 2 : Nat), .int .u32 (wd N 3 : Nat), .slice a m c]) from rfl]
    have s1 := asP_Q
    have s2 := asP_P
    unfold qZ at s1
    go_enter Tryz.func11, Tryz.ntmps11
    go_wp2
    exact bodyPost_ret (res2b (N := N) rfl rfl (old_at (new_at rfl))) rfl ⟨rfl, al2x w _ _⟩
  · obtain rfl : N = 0 := h2 (by decide)
    obtain rfl : r = 0 := h3 rfl
    rw [show noteV 3 f 0 0 (.slice a m c) = .iface 75 (.agg #[.int .i64 f, .slice a m c]) from rfl]
    have s1 := asU_Q
    have s2 := asU_P
    have s3 := asU_U
    unfold qZ at s1
    unfold pZ at s2
    go_enter Tryz.func11, Tryz.ntmps11
    go_wp2
    exact bodyPost_ret (res2b (N := 0) rfl rfl (old_at (new_at rfl))) rfl ⟨rfl, al2x w _ _⟩
set_option maxHeartbeats 1000000 in
set_option maxRecDepth 100000 in
theorem samen_any (k f r : Int) (N : Nat) (hN : N < S128) (a a' : Option Addr) (c c' : Nat) (l : List (Int × Int × Int)) (w : World) (h : RdN w a l) (h' : RdN w a' l) (hl : l.length ≤ 6000000000000) : Calls Tryz.prog 14 #[rnv k f r N (.slice a l.length c), rnv k f r N (.slice a' l.length c')] w fun e w' => e = .returned (.bool true) ∧ Below w.heap.size w w' := by
  have hb0 := al2x w (.cells #[.int .i64 k, .int .i64 f, .int .i64 r, .int .u32 (wd N 0 : Nat), .int .u32 (wd N 1 : Nat), .int .u32 (wd N 2 : Nat), .int .u32 (wd N 3 : Nat), .slice a l.length c] 44) (.cells #[.int .i64 k, .int .i64 f, .int .i64 r, .int .u32 (wd N 0 : Nat), .int .u32 (wd N 1 : Nat), .int .u32 (wd N 2 : Nat), .int .u32 (wd N 3 : Nat), .slice a' l.length c'] 44)
  have hsm := same_any a a' c c' l _ (h.carry hb0) (h'.carry hb0) hl
  have heq : ∀ w, (Op.equalIn 10000 41 (.agg #[.int .u32 (wd N 0 : Nat), .int .u32 (wd N 1 : Nat), .int .u32 (wd N 2 : Nat), .int .u32 (wd N 3 : Nat)]) (.agg #[.int .u32 (wd N 0 : Nat), .int .u32 (wd N 1 : Nat), .int .u32 (wd N 2 : Nat), .int .u32 (wd N 3 : Nat)])).run Tryz.prog w = .ok true w := fun w => by
    have h := eqn4 N N hN hN w
    unfold sv at h
    simpa using h
  unfold rnv
  go_enter Tryz.func14, Tryz.ntmps14
  go_wp2_with (go_at_call 29; (with_reducible refine hsm.mono ?_); rintro e u1 ⟨rfl, hb1⟩)
  go_ret
  exact ⟨rfl, bel2 hb0 hb1⟩
end Go.Proofs.YtnomeinppdnhfaaGreat
namespace Go.Proofs.YtnomeinppdnhfaaGreat
open Go.RowKit Go.Shelf
/-- A note of the document's in a box. -/
def RB (W : World) (b : Nat) (k f r : Int) (N : Nat) (v : Value) : Prop := W.heap[b]? = some (.cells #[.int .i64 k, .int .i64 f, .int .i64 r, .int .u32 (wd N 0 : Nat), .int .u32 (wd N 1 : Nat), .int .u32 (wd N 2 : Nat), .int .u32 (wd N 3 : Nat), v] 44 (0, 0))
theorem RB.cells {W : World} {b : Nat} {k f r : Int} {N : Nat} {v : Value} (h : RB W b k f r N v) : W.cell? ⟨b, 0, none⟩ = some (.int .i64 k) ∧ W.cell? ⟨b, 1, none⟩ = some (.int .i64 f) ∧ W.cell? ⟨b, 2, none⟩ = some (.int .i64 r) ∧ W.cell? ⟨b, 3, none⟩ = some (.int .u32 (wd N 0 : Nat)) ∧ W.cell? ⟨b, 4, none⟩ = some (.int .u32 (wd N 1 : Nat)) ∧ W.cell? ⟨b, 5, none⟩ = some (.int .u32 (wd N 2 : Nat)) ∧ W.cell? ⟨b, 6, none⟩ = some (.int .u32 (wd N 3 : Nat)) ∧ W.cell? ⟨b, 7, none⟩ = some v :=
  ⟨cell_at h 0, cell_at h 1, cell_at h 2, cell_at h 3, cell_at h 4, cell_at h 5, cell_at h 6, cell_at h 7⟩
theorem RB.thaw {W : World} {b : Nat} {k f r : Int} {N : Nat} {v : Value} (h : RB W b k f r N v) : W.frozen? ⟨b, 0, none⟩ = false ∧ W.frozen? ⟨b, 1, none⟩ = false ∧ W.frozen? ⟨b, 2, none⟩ = false ∧ W.frozen? ⟨b, 3, none⟩ = false ∧ W.frozen? ⟨b, 4, none⟩ = false ∧ W.frozen? ⟨b, 5, none⟩ = false ∧ W.frozen? ⟨b, 6, none⟩ = false ∧ W.frozen? ⟨b, 7, none⟩ = false :=
  ⟨thaw_at h 0, thaw_at h 1, thaw_at h 2, thaw_at h 3, thaw_at h 4, thaw_at h 5, thaw_at h 6, thaw_at h 7⟩
theorem RB.below {W W' : World} {b : Nat} {k f r : Int} {N : Nat} {v : Value} (h : RB W b k f r N v) (hb : Below W.heap.size W W') : RB W' b k f r N v := (hb.block b (lt_at h)).trans h
theorem RB.set8 {W : World} {b : Nat} {k f r : Int} {N : Nat} {v : Value} (h : RB W b k f r N v) (kd : Nat) (f' r' : Int) (N' : Nat) (v' : Value) : RB (W8 W b kd f' r' N' v') b kd f' r' N' v' :=
  (set_get 7 _ (set_get 6 _ (set_get 5 _ (set_get 4 _ (set_get 3 _ (set_get 2 _ (set_get 1 _ (set_get 0 _ h)))))))).trans (by simp)
theorem below8 {w W : World} {b : Nat} (h : Below b w W) (kd : Nat) (f r : Int) (N : Nat) (v : Value) : Below b w (W8 W b kd f r N v) := by
  unfold W8
  exact (((((((h.setCell (p := ⟨b, 0, none⟩) (Nat.le_refl _) _).setCell (p := ⟨b, 1, none⟩) (Nat.le_refl _) _).setCell (p := ⟨b, 2, none⟩) (Nat.le_refl _) _).setCell (p := ⟨b, 3, none⟩) (Nat.le_refl _) _).setCell (p := ⟨b, 4, none⟩) (Nat.le_refl _) _).setCell (p := ⟨b, 5, none⟩) (Nat.le_refl _) _).setCell (p := ⟨b, 6, none⟩) (Nat.le_refl _) _).setCell (p := ⟨b, 7, none⟩) (Nat.le_refl _) _
theorem kd_facts (k r : Int) (N : Nat) (hN : N < S128) : (1 ≤ kdN k ∧ kdN k ≤ 3) ∧ (kdN k = 3 → krN k r = 0) ∧ (kdN k ≠ 2 → kNN k N = 0) ∧ kNN k N < S128 := by
  unfold kdN krN kNN
  by_cases h1 : k = 1
  · subst h1; simp; exact s128_0
  by_cases h2 : k = 2
  · subst h2; simp [hN]
  · simp [h1, h2]; exact s128_0
end Go.Proofs.YtnomeinppdnhfaaGreat
namespace Go.Proofs.YtnomeinppdnhfaaGreat
open Go.RowKit Go.Shelf Go.Lib

/-- The empty book of lists. -/
def nil24 : Array Value := #[.slice none 0 0, .slice none 0 0, .slice none 0 0, .slice none 0 0, .slice none 0 0, .slice none 0 0, .slice none 0 0, .slice none 0 0, .slice none 0 0, .slice none 0 0, .slice none 0 0, .slice none 0 0, .slice none 0 0, .slice none 0 0, .slice none 0 0, .slice none 0 0, .slice none 0 0, .slice none 0 0, .slice none 0 0, .slice none 0 0, .slice none 0 0, .slice none 0 0, .slice none 0 0, .slice none 0 0]
theorem nil24_get (j : Nat) (hj : j < 24) : nil24[j]? = some (.slice none 0 0) := by
  have e : nil24 = Array.replicate 24 (.slice none 0 0) := rfl
  rw [e, Array.getElem?_replicate, if_pos hj]
theorem hidI {p : Prop} (h : p) : Hid p := h
theorem cB_fc (l : List Nat) : cB l = Kel.fc Kel.cBytes l := by
  induction l with
  | nil => rfl
  | cons x l ih => rw [Kel.fc_cons, ← ih]; rfl
theorem fl_fc (l : List (Int × Int × Int)) : fl l = Kel.fc Kel.cNotices l := by
  induction l with
  | nil => rfl
  | cons x l ih => rw [Kel.fc_cons, ← ih]; rfl
/-- A list's block lies below S. -/
def Lo (S : Nat) (z : Value) : Prop := ∀ g, z.ownBlock = some g → g < S
/-- The book, with lists of both kinds: blocks of bytes below SB, of notices below SN. -/
def BkL (base bb SB SN : Nat) (W : World) : Prop := ∃ uI vI XI yI LI uN vN XN yN LN C, Kel.Bb 38 W bb C ∧ C.size = 24 ∧ (∀ j, j < 24 → j ≠ 8 → j ≠ 9 → j ≠ 6 → j ≠ 7 → C[j]? = some (.slice none 0 0)) ∧ C[8]? = some uI ∧ C[9]? = some vI ∧ C[6]? = some uN ∧ C[7]? = some vN ∧ Kel.Kk Kel.cBytes 1 5 46 base W uI vI XI yI LI ∧ Kel.Kk Kel.cNotices 3 80 42 base W uN vN XN yN LN ∧ (∀ (i : Nat) (z : Value), XI[i]? = some z → Lo SB z) ∧ (∀ (i : Nat) (z : Value), XN[i]? = some z → Lo SN z)
theorem BkL.new (W : World) (base SB SN : Nat) : BkL base W.heap.size SB SN (W.alloc (.cells nil24 38)) :=
  ⟨_, _, [], [], [], _, _, [], [], [], nil24, new_at rfl, rfl, fun j hj _ _ _ _ => nil24_get j hj, nil24_get 8 (by decide), nil24_get 9 (by decide), nil24_get 6 (by decide), nil24_get 7 (by decide), Kel.Kk.nil, Kel.Kk.nil, fun _ _ h => (by cases h), fun _ _ h => (by cases h)⟩
theorem BkL.carry {base bb SB SN : Nat} {W V : World} (h : BkL base bb SB SN W) (hb : Below W.heap.size W V) : BkL base bb SB SN V := by
  obtain ⟨uI, vI, XI, yI, LI, uN, vN, XN, yN, LN, C, h1, h2, h3, h4, h5, h6, h7, h8, h9, h10⟩ := h
  exact ⟨uI, vI, XI, yI, LI, uN, vN, XN, yN, LN, C, h1.carry hb, h2, h3, h4, h5, h6, h7, h8.carry hb, h9.carry hb, h10⟩
theorem BkL.up {base bb SB SN TB TN : Nat} {W : World} (h : BkL base bb SB SN W) (hB : SB ≤ TB) (hN : SN ≤ TN) : BkL base bb TB TN W := by
  obtain ⟨uI, vI, XI, yI, LI, uN, vN, XN, yN, LN, C, h1, h2, h3, h4, h5, h6, h7, h8, h9, h10, h11⟩ := h
  exact ⟨uI, vI, XI, yI, LI, uN, vN, XN, yN, LN, C, h1, h2, h3, h4, h5, h6, h7, h8, h9, fun i z hz g hg => Nat.lt_of_lt_of_le (h10 i z hz g hg) hB, fun i z hz g hg => Nat.lt_of_lt_of_le (h11 i z hz g hg) hN⟩
/-- What abides when a list is kept: blocks that are no lists of lists of that kind, and all below base. -/
structure Ab (base : Nat) (t : TypeId) (W V : World) : Prop where
  low : Below base W V
  box : ∀ {q : Nat} {cur : Array Value} {ty : TypeId} {fz : Nat × Nat}, W.heap[q]? = some (.cells cur ty fz) → ty ≠ 38 → ty ≠ t → V.heap[q]? = some (.cells cur ty fz)
theorem Ab.own {base : Nat} {t : TypeId} {W V : World} (h : Ab base t W V) {b1 n1 s1 : Nat} {ty : TypeId} {z : Value} {zs : List Value} (hr : W.ownsRow b1 ty s1 z n1 zs) (q1 : ty ≠ 38) (q2 : ty ≠ t) : V.ownsRow b1 ty s1 z n1 zs :=
  Kel.row_at hr fun g hg => by
    obtain ⟨_, cur, hc⟩ := Kel.rowBlk hr g hg
    rw [hc]
    exact h.box hc q1 q2
theorem ab_of {base bb n n' s' : Nat} {TT : TypeId} {W V : World} {u v : Value} {xs ys : List Value} {C : Array Value} (hb : Kel.Fk bb u v W V) (hB : Kel.Bb 38 W bb C) (hu : W.ownsRow base TT s' u n xs) (hv : W.ownsRow base TT s' v n' ys) (hbb : base ≤ bb) (hz : base ≤ W.heap.size) : Ab base TT W V :=
  ⟨hb.low hu hv hbb hz, fun {q cur ty fz} hc q1 q2 => by
    rw [← hc]
    refine hb.block q (lt_at hc) ?_ ?_ ?_
    · intro e
      subst e
      have := hB.symm.trans hc
      simp only [Option.some.injEq, Obj.cells.injEq] at this
      exact q1 this.2.1.symm
    · exact Kel.row_type hu hc q2
    · exact Kel.row_type hv hc q2⟩
theorem keepB {base bb SB SN T : Nat} {w : World} (h : BkL base bb SB SN w) (hbz : base ≤ w.heap.size) (hbb : base ≤ bb) {z : Value} {l : List Nat} (hz : w.ownsRow base 5 1 z l.length (cB l)) (hl : l.length ≤ 1000000) (hn : ∀ g, z.ownBlock = some g → SB ≤ g ∧ g < T) (hT : SB ≤ T) : Calls Tryz.prog 9 #[.pointer (some ⟨bb, 0, none⟩), z] w fun e w' => e = .returned (.tuple #[]) ∧ BkL base bb T SN w' ∧ Ab base 46 w w' := by
  obtain ⟨uI, vI, XI, yI, LI, uN, vN, XN, yN, LN, C, h1, h2, h3, h4, h5, h6, h7, h8, h9, h10, h11⟩ := h
  rw [cB_fc] at hz
  refine (Kel.keepBytes_any h1 h4 h5 h8 hbz hz hl (fun i g z' hz' e e2 => by have a1 := hn g e; have a2 := h10 i z' hz' g e2; omega)).mono ?_
  rintro e w' ⟨rfl, u', v', x', y', L', k1, k2, k3, k4⟩
  refine ⟨rfl, ⟨u', v', x', y', L', uN, vN, XN, yN, LN, _, k1, by rw [Kel.put2_sz]; exact h2, fun j hj q0 q1 q6 q7 => by rw [Kel.put2_ne q0 q1]; exact h3 j hj q0 q1 q6 q7, Kel.put2_0 (by omega) _ _, Kel.put2_1 (by omega) _ _, by rw [Kel.put2_ne (by decide) (by decide)]; exact h6, by rw [Kel.put2_ne (by decide) (by decide)]; exact h7, k2, h9.fk k3 h1 h8.kl.row h8.cr (by decide) (by decide) (by decide) (by decide), fun i z' hz' => ?_, h11⟩, ab_of k3 h1 h8.kl.row h8.cr hbb hbz⟩
  rcases k4 i z' hz' with rfl | ⟨j, q⟩
  · exact fun g hg => (hn g hg).2
  · exact fun g hg => Nat.lt_of_lt_of_le (h10 j z' q g hg) hT
theorem keepN {base bb SB SN T : Nat} {w : World} (h : BkL base bb SB SN w) (hbz : base ≤ w.heap.size) (hbb : base ≤ bb) {z : Value} {l : List (Int × Int × Int)} (hz : w.ownsRow base 80 3 z l.length (fl l)) (hl : l.length ≤ 1000000) (hn : ∀ g, z.ownBlock = some g → SN ≤ g ∧ g < T) (hT : SN ≤ T) : Calls Tryz.prog 15 #[.pointer (some ⟨bb, 0, none⟩), z] w fun e w' => e = .returned (.tuple #[]) ∧ BkL base bb SB T w' ∧ Ab base 42 w w' := by
  obtain ⟨uI, vI, XI, yI, LI, uN, vN, XN, yN, LN, C, h1, h2, h3, h4, h5, h6, h7, h8, h9, h10, h11⟩ := h
  rw [fl_fc] at hz
  refine (Kel.keepNotices_any h1 h6 h7 h9 hbz hz hl (fun i g z' hz' e e2 => by have a1 := hn g e; have a2 := h11 i z' hz' g e2; omega)).mono ?_
  rintro e w' ⟨rfl, u', v', x', y', L', k1, k2, k3, k4⟩
  refine ⟨rfl, ⟨uI, vI, XI, yI, LI, u', v', x', y', L', _, k1, by rw [Kel.put2_sz]; exact h2, fun j hj q0 q1 q6 q7 => by rw [Kel.put2_ne q6 q7]; exact h3 j hj q0 q1 q6 q7, by rw [Kel.put2_ne (by decide) (by decide)]; exact h4, by rw [Kel.put2_ne (by decide) (by decide)]; exact h5, Kel.put2_0 (by omega) _ _, Kel.put2_1 (by omega) _ _, h8.fk k3 h1 h9.kl.row h9.cr (by decide) (by decide) (by decide) (by decide), k2, h10, fun i z' hz' => ?_⟩, ab_of k3 h1 h9.kl.row h9.cr hbb hbz⟩
  rcases k4 i z' hz' with rfl | ⟨j, q⟩
  · exact fun g hg => (hn g hg).2
  · exact fun g hg => Nat.lt_of_lt_of_le (h11 j z' q g hg) hT
theorem apart2 {base bb SB SN : Nat} {w : World} (h : BkL base bb SB SN w) (hbz : base ≤ w.heap.size) : Calls Tryz.prog 16 #[.pointer (some ⟨bb, 0, none⟩)] w fun e w' => e = .returned (.bool true) ∧ Below base w w' := by
  obtain ⟨uI, vI, XI, yI, LI, uN, vN, XN, yN, LN, C, h1, h2, h3, h4, h5, h6, h7, h8, h9, h10, h11⟩ := h
  exact Kel.apart_any h1 (fun j hj a b c d => h3 j hj c d a b) h6 h7 h9 h4 h5 h8 hbz
end Go.Proofs.YtnomeinppdnhfaaGreat
