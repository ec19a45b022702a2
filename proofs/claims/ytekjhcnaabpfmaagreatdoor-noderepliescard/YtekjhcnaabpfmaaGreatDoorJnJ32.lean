import Derived.Test.YtekjhcnaabpfmaaGreatDoorJnJ15
import Derived.Test.YtekjhcnaabpfmaaGreatDoorJnJ5
import Derived.Test.YtekjhcnaabpfmaaGreatDoorRows
import Derived.ProofKit
import Derived.OpenShut
import Derived.Laws.IdiomArrays
import Derived.ChangeOld
import Derived.Below
import Derived.Deep.Slices
import Derived.Deep.Strs
import Derived.Test.YtekjhcnaabpfmaaGreatDoorJnJ18
import Derived.ChangeSlices
set_option maxHeartbeats 40000000
set_option maxRecDepth 100000
set_option linter.unusedVariables false
namespace Go.Proofs.YtekjhcnaabpfmaaGreatDoor
open Go.RowKit Go.Shelf
theorem same_any (ad ad2 : Option Addr) (cap cap2 : Nat) (l : List (Int × Int × Int)) (w : World) (h : RdN w ad l) (h2 : RdN w ad2 l) (hl : l.length ≤ 6000000000000) : Calls Tryz.prog 19 #[.slice ad l.length cap, .slice ad2 l.length cap2] w fun e w' => e = .returned (.bool true) ∧ Below w.heap.size w w' := by
 have hmx := mixO
 go_enter Tryz.func19, Tryz.ntmps19
 go_wp2
 go_loopw [5] (fun i wz => ∃ (k : Nat), i = .int .i64 k ∧ k ≤ l.length ∧ Below w.heap.size w wz) (fun i _ => l.length - vnatR i)
 case atStart => exact ⟨0, rfl, Nat.zero_le _, Below.refl _ _⟩
 case round =>
  obtain ⟨k, rfl, hk, hbw⟩ := hrel
  by_cases hkl : k < l.length
  · have hne : l ≠ [] := fun e => by subst e; simp at hkl
    obtain ⟨b, off, e1, hbl, hat⟩ := h.carry hbw hne
    obtain ⟨c, of, e2, hcl, hat2⟩ := h2.carry hbw hne
    subst e1 e2
    have hj : JI w b off l c of l wr := ⟨hbl, hat, hcl, hat2, hbw⟩
    obtain ⟨⟨o, t, q⟩, hx⟩ : ∃ x, l[k]? = some x := ⟨_, List.getElem?_eq_getElem hkl⟩
    have hki : (k : Int) < (l.length : Int) := by omega
    clear hat hat2
    go_wp2
    rename_i Q0 K0 hK
    refine wp_region_any hmx ?_
    refine zwp (fun i__ => ([(.slice (some ⟨b, off, none⟩) l.length cap), (.int .i64 (k : Int)), (.pointer (some ⟨b, off + k * 3, none⟩)), (nt o t q), (.slice (some ⟨c, of, none⟩) l.length cap2), (.int .i64 (k : Int)), (.pointer (some ⟨c, of + k * 3, none⟩)), (nt o t q), (.bool true), (.bool false)] : List Value).getD i__ undef) (fun W => JI w b off l c of l W) (by kernel_rfl) (hj.carry (Below.refl _ _).drew) ?_ ?_
    · refine (sqc ?_ (sqc ?_ (sqc ?_ (sqc ?_ (sqc ?_ (sqc ?_ (sqc ?_ (sqc ?_ (sqc ?_ (sqc ?_ trivial))))))))))
      · exact zmv rfl trivial _ rfl (by kernel_rfl)
      · exact zmv rfl trivial _ rfl (by kernel_rfl)
      · exact zia rfl trivial _ _ _ _ _ rfl rfl rfl (fun w hw => idx_n b off l.length cap k hkl w)
      · exact zld rfl trivial _ _ _ rfl rfl (fun w hw => load_at hw.at' hx)
      · exact zmv rfl trivial _ rfl (by kernel_rfl)
      · exact zmv rfl trivial _ rfl (by kernel_rfl)
      · exact zia rfl trivial _ _ _ _ _ rfl rfl rfl (fun w hw => idx_n c of l.length cap2 k hkl w)
      · exact zld rfl trivial _ _ _ rfl rfl (fun w hw => load_at hw.at2 hx)
      · exact zbo rfl trivial _ _ _ _ _ _ _ rfl rfl rfl (fun w hw => (bin_eqn _ _ _ _ _ _).trans (by simp))
      · exact step_unOp rfl trivial _ _ _ _ rfl rfl (fun w hw => un_notN _ w)
    intro W hW
    first | refine hK _ _ ?_ | refine (‹∀ (a : Act) (w : World), Code.wp Tryz.prog _ _ a w → _›) _ _ ?_
    simp only [finL, List.getD_cons_zero, List.getD_cons_succ, Nat.zero_add, Nat.reduceAdd, List.setIfInBounds_toArray, List.set_cons_zero, List.set_cons_succ]
    clear hK
    go_wp2
    go_roundw
    case rel => exact ⟨k + 1, by simp, by omega, hW.below⟩
    case measure => simp [vnatR]; omega
  · have hkk : k = l.length := by omega
    subst hkk
    go_wp2
    go_ret
    exact ⟨rfl, hbw⟩
end Go.Proofs.YtekjhcnaabpfmaaGreatDoor
namespace Go.Proofs.YtekjhcnaabpfmaaGreatDoor
open Go.ChangeShapes Go.WideShapes Go.ChangeAt Go.RowKit
theorem cellsW : Tryz.prog.cellsOf 33 = 1 := by kernel_rfl
theorem nat_of_u32 {x : Int} (h : (Lit.int .u32 x).wf = true) : ∃ n : Nat, x = (n : Int) ∧ n < 4294967296 := by
 have := bounds_u32 h
 exact ⟨x.toNat, by omega, by omega⟩
theorem cellsIM : Tryz.prog.cellsOf 3 = 1 := by kernel_rfl
theorem cellsNM : Tryz.prog.cellsOf 65 = 3 := by kernel_rfl
theorem cell_ltM {W : World} {a : Addr} {v : Value} (h : W.cell? a = some v) : a.block < W.heap.size := by
 unfold World.cell? at h
 cases hb : W.heap[a.block]? with
 | none => simp [hb] at h
 | some o => exact (Array.getElem?_eq_some_iff.1 hb).1
theorem one_nt {H : Type} {enc : TypeId × Value → H} {W : World} {n : Nat} {cs : List Value} {x : DataW H × List MemPlace} (hl : cs.length = 3) (h : DataW.trod enc Tryz.prog W 0 (fun _ => true) true n 65 cs = some x) : ∃ o t k : Int, cs = [.int .i64 o, .int .i64 t, .int .i64 k] := by
 obtain ⟨y0, y1, y2, m, hx, _, hy0, hy1, hy2⟩ := Deep.trod_struct3 Tryz.underlying65 h
 match cs, hl with
 | [c0, c1, c2], _ =>
  obtain ⟨x0, e0, _, _⟩ := DataW.trod_int Tryz.underlying3 hy0
  obtain ⟨x1, e1, _, _⟩ := DataW.trod_int Tryz.underlying3 hy1
  obtain ⟨x2, e2, _, _⟩ := DataW.trod_int Tryz.underlying3 hy2
  simp [cellsIM] at e0 e1 e2
  subst e0 e1 e2
  exact ⟨x0, x1, x2, rfl⟩
theorem wf_u8 {z : Int} (h : (Lit.int .u8 z).wf = true) : 0 ≤ z ∧ z < 256 := by
 simp [Lit.wf] at h
 have h1 : IntKind.u8.min = 0 := rfl
 have h2 : IntKind.u8.max = 255 := rfl
 omega
theorem nts_of_trod {H : Type} {enc : TypeId × Value → H} {W : World} {fuel : Nat} {c : Value} {x : DataW H × List MemPlace}
   (hf : DataW.trod enc Tryz.prog W 0 (fun _ => true) true fuel 36 [c] = some x) : ∃ (ad : Option Addr) (cap : Nat) (l : List (Int × Int × Int)), c = .slice ad l.length cap ∧ RdN W ad l ∧ (ad = none → cap = 0) ∧ l.length ≤ cap := by
 rcases Deep.open_slice Tryz.underlying36 hf with ⟨hcs, _⟩ | ⟨a, len0, cap0, m, n, D, Pl, hcs, _, hlc, hcm, hmm, hx, hel⟩
 · simp only [List.cons.injEq, and_true] at hcs
   subst hcs
   exact ⟨none, 0, [], rfl, fun h => absurd rfl h, fun _ => rfl, Nat.le_refl _⟩
 · simp only [List.cons.injEq, and_true] at hcs
   subst hcs
   have hm : m = cap0 := by simpa using hmm
   have each : ∀ i, i < len0 → ∃ x : Int × Int × Int, W.cell? (a.add (i * 3)) = some (.int .i64 x.1) ∧ W.cell? (a.add (i * 3 + 1)) = some (.int .i64 x.2.1) ∧ W.cell? (a.add (i * 3 + 2)) = some (.int .i64 x.2.2) := by
     intro i hi
     obtain ⟨cs, h1, h2⟩ := hel i (by omega)
     rw [cellsNM] at h1
     obtain ⟨_, hlen, hcell⟩ := World.cells?_some h1
     obtain ⟨o, t, k, rfl⟩ := one_nt hlen h2
     have e0 := hcell 0 (by omega)
     have e1 := hcell 1 (by omega)
     have e2 := hcell 2 (by omega)
     rw [Deep.add_add] at e0 e1 e2
     exact ⟨(o, t, k), by simpa using e0, by simpa using e1, by simpa using e2⟩
   obtain ⟨q, hq⟩ := Deep.choose_lt each
   refine ⟨some a, cap0, (List.range len0).map q, by simp, fun hne => ?_, (by intro e; cases e), (by simpa using hlc)⟩
   have hpos : 0 < len0 := by
     cases len0 with
     | zero => simp at hne
     | succ n => omega
   obtain ⟨b', off', x'⟩ := a
   have hx' : x' = none := by simpa [Addr.add] using World.cell?_spot (hq 0 hpos).1
   subst hx'
   have hadd : ∀ j, (⟨b', off', none⟩ : Addr).add j = ⟨b', off' + j, none⟩ := fun j => by unfold Addr.add; split <;> simp_all
   refine ⟨b', off', rfl, ?_, fun k y hy => ?_⟩
   · have := cell_ltM (hq 0 hpos).1
     rw [hadd] at this
     exact this
   · rw [List.getElem?_map] at hy
     obtain ⟨k', hk', rfl⟩ := Option.map_eq_some_iff.1 hy
     have hk := (List.getElem?_eq_some_iff.1 hk').1
     simp at hk
     have hkk : k' = k := by
      rw [List.getElem?_range hk] at hk'
      exact (Option.some.inj hk').symm
     subst hkk
     obtain ⟨c0, c1, c2⟩ := hq k' hk
     rw [hadd] at c0 c1 c2
     exact ⟨c0, by simpa [Nat.add_assoc] using c1, by simpa [Nat.add_assoc] using c2⟩
theorem cellsSW : Tryz.prog.cellsOf 35 = 4 := by kernel_rfl
theorem cellsSl : Tryz.prog.cellsOf 36 = 1 := by kernel_rfl
theorem cellsRN : Tryz.prog.cellsOf 38 = 8 := by kernel_rfl
def rnv (k f r : Int) (N : Nat) (v : Value) : Value := .agg #[.int .i64 k, .int .i64 f, .int .i64 r, .int .u32 (wd N 0 : Nat), .int .u32 (wd N 1 : Nat), .int .u32 (wd N 2 : Nat), .int .u32 (wd N 3 : Nat), v]
theorem open_note {H : Type} {enc : TypeId × Value → H} {W : World} {base : Nat} {v : Value} {d : DataW H} {p : List MemPlace} (hval : Value.okWide Tryz.prog W .any base 38 v)
  (h : DataW.Trod enc Tryz.prog W 0 (fun _ => true) true 38 v d p) : ∃ (k f r : Int) (N : Nat) (ad : Option Addr) (cap : Nat) (l : List (Int × Int × Int)), v = rnv k f r N (.slice ad l.length cap) ∧ N < S128 ∧ (Lit.int .i64 k).wf = true ∧ (Lit.int .i64 f).wf = true ∧ (Lit.int .i64 r).wf = true ∧ RdN W ad l ∧ (ad = none → cap = 0) ∧ l.length ≤ cap := by
 obtain ⟨cs, rfl, hsz, _⟩ : ∃ cs, v = .agg cs ∧ cs.size = Tryz.prog.cellsOf 38 ∧ Row.okWide Tryz.prog W .any base 38 cs := by
  simpa [Value.okWide, Tryz.underlying38] using hval
 rw [cellsRN] at hsz
 obtain ⟨l⟩ := cs
 obtain ⟨c0, c1, c2, c3, c4, c5, c6, c7, rfl⟩ : ∃ c0 c1 c2 c3 c4 c5 c6 c7, l = [c0, c1, c2, c3, c4, c5, c6, c7] := by
  match l, hsz with
  | [c0, c1, c2, c3, c4, c5, c6, c7], _ => exact ⟨_, _, _, _, _, _, _, _, rfl⟩
 obtain ⟨fuel, hf⟩ := h
 obtain ⟨xs, n, _, _, _, hlen, hfs⟩ := DataW.trod_struct Tryz.underlying38 hf
 match xs, hlen with
 | [y0, y1, y2, y3, y4], _ =>
  have g0 := hfs 0 _ rfl
  have g1 := hfs 1 _ rfl
  have g2 := hfs 2 _ rfl
  have g3 := hfs 3 _ rfl
  have g4 := hfs 4 _ rfl
  simp [Value.cells, cellsIM, cellsSW, cellsSl] at g0 g1 g2 g3 g4
  obtain ⟨x0, e0, rfl, w0⟩ := DataW.trod_int Tryz.underlying3 g0
  obtain ⟨x1, e1, rfl, w1⟩ := DataW.trod_int Tryz.underlying3 g1
  obtain ⟨x2, e2, rfl, w2⟩ := DataW.trod_int Tryz.underlying3 g2
  obtain ⟨z0, z1, z2, z3, m, hx, hy0, hy1, hy2, hy3⟩ := trod_array4 Tryz.underlying35 cellsW g3
  obtain ⟨u0, f0, rfl, v0⟩ := DataW.trod_int Tryz.underlying33 hy0
  obtain ⟨u1, f1, rfl, v1⟩ := DataW.trod_int Tryz.underlying33 hy1
  obtain ⟨u2, f2, rfl, v2⟩ := DataW.trod_int Tryz.underlying33 hy2
  obtain ⟨u3, f3, rfl, v3⟩ := DataW.trod_int Tryz.underlying33 hy3
  simp at e0 e1 e2 f0 f1 f2 f3
  subst e0 e1 e2 f0 f1 f2 f3
  obtain ⟨ad, cap, l, rfl, hr, hc, hlc⟩ := nts_of_trod g4
  obtain ⟨n0, rfl, b0⟩ := nat_of_u32 v0
  obtain ⟨n1, rfl, b1⟩ := nat_of_u32 v1
  obtain ⟨n2, rfl, b2⟩ := nat_of_u32 v2
  obtain ⟨n3, rfl, b3⟩ := nat_of_u32 v3
  refine ⟨x0, x1, x2, joinW n0 n1 n2 n3, ad, cap, l, ?_, join_lt _ _ _ _ b0 b1 b2 b3, w0, w1, w2, hr, hc, hlc⟩
  rw [rnv, wd_join0 _ _ _ _ b0, wd_join1 _ _ _ _ b0 b1, wd_join2 _ _ _ _ b0 b1 b2, wd_join3 _ _ _ _ b0 b1 b2 b3]
end Go.Proofs.YtekjhcnaabpfmaaGreatDoor
