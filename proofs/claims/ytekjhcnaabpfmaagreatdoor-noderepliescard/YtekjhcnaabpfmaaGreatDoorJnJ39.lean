import Derived.Test.YtekjhcnaabpfmaaGreatDoorJnJ32
import Derived.Test.YtekjhcnaabpfmaaGreatDoorJnJ25
import Derived.Test.YtekjhcnaabpfmaaGreatDoorJnJ38
import Derived.Test.YtekjhcnaabpfmaaGreatDoorRows
import Derived.Test.YtekjhcnaabpfmaaGreatDoorJnJ29
import Derived.Stop.LaidErr
import Derived.Lay
import Derived.LaidMore
import Derived.LaidSub
import Derived.LaidHandle
import Derived.LaidLaws
import Derived.MakeChecks
set_option maxHeartbeats 40000000
set_option maxRecDepth 100000
set_option linter.unusedVariables false
namespace Go.Proofs.YtekjhcnaabpfmaaGreatDoor
open Go.ChangeShapes Go.WideShapes Go.ChangeAt Go.RowKit
structure OpN where
 k : Int
 a : Int
 b : Int
 nk : Int
 nf : Int
 nr : Int
 nN : Nat
 na : Option Addr
 nc : Nat
 nl : List N3
 da : Option Addr
 dc : Nat
 dl : List Nat
def opC (o : OpN) : Array Value := #[.int .i64 o.k, .int .i64 o.a, .int .i64 o.b, .int .i64 o.nk, .int .i64 o.nf, .int .i64 o.nr, .int .u32 (wd o.nN 0 : Nat), .int .u32 (wd o.nN 1 : Nat), .int .u32 (wd o.nN 2 : Nat), .int .u32 (wd o.nN 3 : Nat), .slice o.na o.nl.length o.nc, .slice o.da o.dl.length o.dc]
structure OpOk (W : World) (o : OpN) : Prop where
 nN : o.nN < S128
 nl : RdN W o.na o.nl
 dl : RdBW W o.da o.dl
 by_ : BytW o.dl
 dc : o.dl.length ≤ o.dc
theorem OpOk.carry {W V : World} {o : OpN} (h : OpOk W o) (hb : Below W.heap.size W V) : OpOk V o := ⟨h.nN, h.nl.carry hb, h.dl.carry hb, h.by_, h.dc⟩
def RdW (W : World) (ad : Option Addr) (ops : List OpN) : Prop := ∀ (n : Nat) (o : OpN), ops[n]? = some o → ∃ b off, ad = some ⟨b, off, none⟩ ∧ b < W.heap.size ∧ (∀ j, j < 12 → W.cell? ⟨b, off + n * 12 + j, none⟩ = (opC o)[j]?) ∧ OpOk W o
theorem RdW.carry {W V : World} {ad : Option Addr} {ops : List OpN} (h : RdW W ad ops) (hb : Below W.heap.size W V) : RdW V ad ops := fun n o hn => by
 obtain ⟨b, off, e, hlt, hc, hk⟩ := h n o hn
 exact ⟨b, off, e, Nat.lt_of_lt_of_le hlt hb.size, fun j hj => (hb.cell (p := ⟨b, off + n * 12 + j, none⟩) hlt).trans (hc j hj), hk.carry hb⟩
theorem cellsOpW : Tryz.prog.cellsOf 40 = 12 := by kernel_rfl
theorem cellsSbW : Tryz.prog.cellsOf 23 = 1 := by kernel_rfl
theorem bytes_of_trod {H : Type} {enc : TypeId × Value → H} {W : World} {fuel : Nat} {c : Value} {x : DataW H × List MemPlace}
   (hf : DataW.trod enc Tryz.prog W 0 (fun _ => true) true fuel 23 [c] = some x) : ∃ (ad : Option Addr) (cap : Nat) (l : List Nat), c = .slice ad l.length cap ∧ RdBW W ad l ∧ BytW l ∧ l.length ≤ cap ∧ cap ≤ maxLen := by
 rcases open_ints Tryz.underlying23 Tryz.underlying5 (by kernel_rfl) hf with ⟨hcs, _⟩ | ⟨x, l, c, zs, hcs, _, hl, hm, hz, _, hcell, hwz⟩
 · simp only [List.cons.injEq, and_true] at hcs
   subst hcs
   exact ⟨none, 0, [], rfl, fun h => absurd rfl h, byt_nilW, Nat.le_refl _, by unfold maxLen; simp⟩
 · simp only [List.cons.injEq, and_true] at hcs
   subst hcs
   have hz' : zs.length = c := by simpa using hz
   have hlen : ((zs.take l).map Int.toNat).length = l := by simp; omega
   have hzw : ∀ z ∈ zs, 0 ≤ z ∧ z < 256 := fun z hzm => wf_u8 (hwz z hzm)
   refine ⟨some x, c, (zs.take l).map Int.toNat, by rw [hlen], fun hne => ?_, ?_, by rw [hlen]; exact hl, hm⟩
   · have hpos : 0 < l := by
       cases l with
       | zero => simp at hne
       | succ n => omega
     obtain ⟨b, off, s⟩ := x
     have c0 := hcell 0 (by omega)
     have hs : s = none := by
       have := World.cell?_spot c0
       simpa [Addr.add] using this
     subst hs
     have hadd : ∀ j, (⟨b, off, none⟩ : Addr).add j = ⟨b, off + j, none⟩ := fun j => add_pl b off j
     refine ⟨b, off, rfl, ?_, fun k y hy => ?_⟩
     · have := cell_ltM c0
       rw [hadd] at this
       exact this
     · rw [List.getElem?_map] at hy
       obtain ⟨z, hz1, rfl⟩ := Option.map_eq_some_iff.1 hy
       rw [List.getElem?_take] at hz1
       split at hz1
       · rename_i hk
         have hzm := hzw z (List.mem_of_getElem? hz1)
         have := hcell k (by omega)
         rw [hadd, List.getD_eq_getElem?_getD, hz1] at this
         rw [this, Int.toNat_of_nonneg hzm.1]
         rfl
       · cases hz1
   · intro y hy
     obtain ⟨z, hz1, rfl⟩ := List.mem_map.1 hy
     have := hzw z (List.mem_of_mem_take hz1)
     omega
theorem note_of_trod {H : Type} {enc : TypeId × Value → H} {W : World} {fuel : Nat} {c0 c1 c2 c3 c4 c5 c6 c7 : Value} {x : DataW H × List MemPlace}
  (hf : DataW.trod enc Tryz.prog W 0 (fun _ => true) true fuel 38 [c0, c1, c2, c3, c4, c5, c6, c7] = some x) : ∃ (k f r : Int) (N : Nat) (ad : Option Addr) (cap : Nat) (l : List (Int × Int × Int)), [c0, c1, c2, c3, c4, c5, c6, c7] = [.int .i64 k, .int .i64 f, .int .i64 r, .int .u32 (wd N 0 : Nat), .int .u32 (wd N 1 : Nat), .int .u32 (wd N 2 : Nat), .int .u32 (wd N 3 : Nat), .slice ad l.length cap] ∧ N < S128 ∧ RdN W ad l ∧ l.length ≤ cap := by
 obtain ⟨xs, n, _, _, _, hlen, hfs⟩ := DataW.trod_struct Tryz.underlying38 hf
 match xs, hlen with
 | [y0, y1, y2, y3, y4], _ =>
  have g0 := hfs 0 _ rfl
  have g1 := hfs 1 _ rfl
  have g2 := hfs 2 _ rfl
  have g3 := hfs 3 _ rfl
  have g4 := hfs 4 _ rfl
  simp [cellsIM, cellsSW, cellsSl] at g0 g1 g2 g3 g4
  obtain ⟨x0, e0, rfl, w0⟩ := DataW.trod_int Tryz.underlying3 g0
  obtain ⟨x1, e1, rfl, w1⟩ := DataW.trod_int Tryz.underlying3 g1
  obtain ⟨x2, e2, rfl, w2⟩ := DataW.trod_int Tryz.underlying3 g2
  obtain ⟨z0, z1, z2, z3, m, hx, hy0, hy1, hy2, hy3⟩ := trod_array4 Tryz.underlying35 cellsW g3
  obtain ⟨u0, f0, rfl, v0⟩ := DataW.trod_int Tryz.underlying33 hy0
  obtain ⟨u1, f1, rfl, v1⟩ := DataW.trod_int Tryz.underlying33 hy1
  obtain ⟨u2, f2, rfl, v2⟩ := DataW.trod_int Tryz.underlying33 hy2
  obtain ⟨u3, f3, rfl, v3⟩ := DataW.trod_int Tryz.underlying33 hy3
  simp at e0 e1 e2 f0 f1 f2 f3
  subst e0 e1 e2 f0 f1 f2 f3
  obtain ⟨ad, cap, l, rfl, hr, hc, hlc⟩ := nts_of_trod g4
  obtain ⟨n0, rfl, b0⟩ := nat_of_u32 v0
  obtain ⟨n1, rfl, b1⟩ := nat_of_u32 v1
  obtain ⟨n2, rfl, b2⟩ := nat_of_u32 v2
  obtain ⟨n3, rfl, b3⟩ := nat_of_u32 v3
  refine ⟨x0, x1, x2, joinW n0 n1 n2 n3, ad, cap, l, ?_, join_lt _ _ _ _ b0 b1 b2 b3, hr, hlc⟩
  rw [wd_join0 _ _ _ _ b0, wd_join1 _ _ _ _ b0 b1, wd_join2 _ _ _ _ b0 b1 b2, wd_join3 _ _ _ _ b0 b1 b2 b3]
theorem one_opW {H : Type} {enc : TypeId × Value → H} {W : World} {n : Nat} {cs : List Value} {x : DataW H × List MemPlace} (hl : cs.length = 12) (h : DataW.trod enc Tryz.prog W 0 (fun _ => true) true n 40 cs = some x) : ∃ o : OpN, cs = (opC o).toList ∧ OpOk W o := by
 obtain ⟨xs, m, _, _, _, hlen, hfs⟩ := DataW.trod_struct Tryz.underlying40 h
 match xs, hlen, cs, hl with
 | [y0, y1, y2, y3, y4], _, [c0, c1, c2, c3, c4, c5, c6, c7, c8, c9, c10, c11], _ =>
  have g0 := hfs 0 _ rfl
  have g1 := hfs 1 _ rfl
  have g2 := hfs 2 _ rfl
  have g3 := hfs 3 _ rfl
  have g4 := hfs 4 _ rfl
  simp [cellsIM, cellsRN, cellsSbW] at g0 g1 g2 g3 g4
  obtain ⟨x0, e0, _, _⟩ := DataW.trod_int Tryz.underlying3 g0
  obtain ⟨x1, e1, _, _⟩ := DataW.trod_int Tryz.underlying3 g1
  obtain ⟨x2, e2, _, _⟩ := DataW.trod_int Tryz.underlying3 g2
  simp at e0 e1 e2
  subst e0 e1 e2
  obtain ⟨nk, nf, nr, nN, na, nc, nl, e3, hN, hr, hlc⟩ := note_of_trod g3
  obtain ⟨da, dc, dl, e4, hd, hby, hdc, _⟩ := bytes_of_trod g4
  simp only [List.cons.injEq, and_true] at e3
  obtain ⟨rfl, rfl, rfl, rfl, rfl, rfl, rfl, rfl⟩ := e3
  subst e4
  exact ⟨⟨x0, x1, x2, nk, nf, nr, nN, na, nc, nl, da, dc, dl⟩, rfl, hN, hr, hd, hby, hdc⟩
theorem open_opsW {H : Type} {enc : TypeId × Value → H} {W : World} {base : Nat} {v : Value} {d : DataW H} {p : List MemPlace} (hval : Value.okWide Tryz.prog W .any base 22 v)
   (h : DataW.Trod enc Tryz.prog W 0 (fun _ => true) true 22 v d p) : ∃ (ad : Option Addr) (cap : Nat) (l : List OpN), v = .slice ad l.length cap ∧ RdW W ad l ∧ l.length ≤ cap ∧ cap ≤ maxLen := by
 obtain ⟨a0, len0, cap0, rfl⟩ := okWide_slice Tryz.underlying22 hval
 obtain ⟨fuel, hf⟩ := h
 rcases Deep.open_slice Tryz.underlying22 hf with ⟨hcs, _⟩ | ⟨a, len, cap, m, n, D, Pl, hcs, _, hlc, hcm, hmm, hx, hel⟩
 · simp [Value.cells] at hcs
   obtain ⟨rfl, rfl, rfl⟩ := hcs
   exact ⟨none, 0, [], rfl, fun n o h => by simp at h, Nat.le_refl _, by unfold maxLen; simp⟩
 · simp [Value.cells] at hcs
   obtain ⟨rfl, rfl, rfl⟩ := hcs
   have hm : m = cap0 := by simpa using hmm
   have each : ∀ i, i < len0 → ∃ o : OpN, (∀ j, j < 12 → W.cell? ((a.add (i * 12)).add j) = (opC o)[j]?) ∧ OpOk W o := by
    intro i hi
    obtain ⟨cs, h1, h2⟩ := hel i (by omega)
    rw [cellsOpW] at h1
    obtain ⟨_, hlen, hcell⟩ := World.cells?_some h1
    obtain ⟨o, rfl, ho⟩ := one_opW hlen h2
    refine ⟨o, fun j hj => ?_, ho⟩
    have := hcell j (by have : (opC o).toList.length = 12 := rfl; omega)
    rw [this]
    simp
   haveI : Inhabited OpN := ⟨⟨0, 0, 0, 0, 0, 0, 0, none, 0, [], none, 0, []⟩⟩
   obtain ⟨q, hq⟩ := Deep.choose_lt each
   refine ⟨some a, cap0, (List.range len0).map q, by simp, fun k y hy => ?_, by simpa using hlc, hcm⟩
   rw [List.getElem?_map] at hy
   obtain ⟨k', hk', rfl⟩ := Option.map_eq_some_iff.1 hy
   have hk := (List.getElem?_eq_some_iff.1 hk').1
   simp at hk
   have hkk : k' = k := by
    rw [List.getElem?_range hk] at hk'
    exact (Option.some.inj hk').symm
   subst hkk
   obtain ⟨c00, _⟩ := hq 0 (by omega)
   obtain ⟨hc, hok⟩ := hq k' hk
   obtain ⟨b', off', x'⟩ := a
   have c000 := c00 0 (by omega)
   have hx' : x' = none := by
    have h0 : W.cell? (((⟨b', off', x'⟩ : Addr).add (0 * 12)).add 0) = some (.int .i64 (q 0).k) := c000
    simpa [Addr.add] using World.cell?_spot h0
   subst hx'
   have hadd : ∀ b o j, (⟨b, o, none⟩ : Addr).add j = ⟨b, o + j, none⟩ := fun b o j => by unfold Addr.add; split <;> simp_all
   simp only [hadd] at hc
   have hlt : b' < W.heap.size := by
    have h0 : W.cell? ⟨b', off' + k' * 12 + 0, none⟩ = some (.int .i64 (q k').k) := hc 0 (by omega)
    exact World.block_lt_of_cell? _ _ h0
   exact ⟨b', off', rfl, hlt, hc, hok⟩
end Go.Proofs.YtekjhcnaabpfmaaGreatDoor
namespace Go.Proofs.YtekjhcnaabpfmaaGreatDoor
open Go.RowKit Go.Shelf Go.Lib
attribute [local go_sem] Oper.semAt_some
def DoR (s : Ns) (o : OpN) (s' : Ns) (E : Int) : Prop := (o.k = 1 ∧ s' = (dPoll s).1 ∧ E = (dPoll s).2.2) ∨ (o.k ≠ 1 ∧ (s' = s ∨ ∃ bs, BytW bs ∧ s' = (dHear s bs).1))
def DoO (w : World) (base x : Nat) (A : NA) (s : Ns) (o : OpN) (r : Ending) (w' : World) : Prop := ∃ E s' A', r = .returned (.int .i64 E) ∧ DoR s o s' E ∧ Nd w' base x A' s' ∧ Mv x A A' w w'
def OB (W : World) (b : Nat) (o : OpN) : Prop := W.heap[b]? = some (.cells (opC o) 40 (0, 0))
theorem OB.carry {W V : World} {b : Nat} {o : OpN} (h : OB W b o) (hb : Below W.heap.size W V) : OB V b o := (hb.block _ (zla h)).trans h
theorem OB.c {W : World} {b : Nat} {o : OpN} (h : OB W b o) : W.cell? ⟨b, 0, none⟩ = some (.int .i64 o.k) ∧ W.cell? ⟨b, 1, none⟩ = some (.int .i64 o.a) ∧ W.cell? ⟨b, 2, none⟩ = some (.int .i64 o.b) ∧ W.cell? ⟨b, 3, none⟩ = some (.int .i64 o.nk) ∧ W.cell? ⟨b, 4, none⟩ = some (.int .i64 o.nf) ∧ W.cell? ⟨b, 5, none⟩ = some (.int .i64 o.nr) ∧ W.cell? ⟨b, 6, none⟩ = some (.int .u32 (wd o.nN 0 : Nat)) ∧ W.cell? ⟨b, 7, none⟩ = some (.int .u32 (wd o.nN 1 : Nat)) ∧ W.cell? ⟨b, 8, none⟩ = some (.int .u32 (wd o.nN 2 : Nat)) ∧ W.cell? ⟨b, 9, none⟩ = some (.int .u32 (wd o.nN 3 : Nat)) ∧ W.cell? ⟨b, 10, none⟩ = some (.slice o.na o.nl.length o.nc) ∧ W.cell? ⟨b, 11, none⟩ = some (.slice o.da o.dl.length o.dc) :=
 ⟨(zca h 0).trans rfl, (zca h 1).trans rfl, (zca h 2).trans rfl, (zca h 3).trans rfl, (zca h 4).trans rfl, (zca h 5).trans rfl, (zca h 6).trans rfl, (zca h 7).trans rfl, (zca h 8).trans rfl, (zca h 9).trans rfl, (zca h 10).trans rfl, (zca h 11).trans rfl⟩
theorem conv_by (b : Int) (n : Nat) (hb : b % 256 = (n : Int)) (W : World) : (convert 3 5 (.int .i64 b)).run Tryz.prog W = .ok (.int .u8 (n : Int)) W := by
 have : IntKind.u8.wrap b = (n : Int) := by rw [IntKind.wrap_u8']; omega
 go_simp
theorem bin_xorB {P : Program} {t : TypeId} {x y : Operand} {w : World} (a b : Nat) (ha : a < 256) (hb : b < 256) : binRun P .xor t x y (.int .u8 (a : Int)) (.int .u8 (b : Int)) w = .ok (.int .u8 ((a ^^^ b : Nat) : Int)) w := by
 rw [← u8_xor_nat a b ha hb]; simp [binRun, go_sem]
theorem idx_by (g n cap k : Nat) (h : k < n) (w : World) : (Instr.indexAt 23 (.slice (some ⟨g, 0, none⟩) n cap) (.int .i64 (k : Int))).run Tryz.prog w = .ok (.pointer (some ⟨g, k, none⟩)) w := by
 have h1 : (k : Int) < (n : Int) := by omega
 go_simp
theorem load_by {V : World} {B j : Nat} {x : Int} (h : V.cell? ⟨B, j, none⟩ = some (.int .u8 x)) : (Instr.loadAt 5 (.pointer (some ⟨B, j, none⟩))).run Tryz.prog V = .ok (.int .u8 x) V := by go_simp
theorem store_by {V : World} {B j : Nat} {x y : Int} (h : V.cell? ⟨B, j, none⟩ = some (.int .u8 x)) (z : V.frozen? ⟨B, j, none⟩ = false) : (Instr.storeAt 5 (.pointer (some ⟨B, j, none⟩)) (.int .u8 y)).run Tryz.prog V = .ok () (V.setCell ⟨B, j, none⟩ (.int .u8 y)) := by go_simp
theorem field_op2 (W : World) (B : Nat) : (Instr.fieldAt 40 (.pointer (some ⟨B, 0, none⟩)) 2).run Tryz.prog W = .ok (.pointer (some ⟨B, 2, none⟩)) W := by go_simp
theorem own_thawB {W : World} {b g n c sz : Nat} {e : TypeId} {xs : List Value} (h : W.ownsRow b e sz (.slice (some ⟨g, 0, none⟩) n c) n xs) (j : Nat) : W.frozen? ⟨g, j, none⟩ = false := by
 obtain ⟨_, cur, hc⟩ := rowBlk h g rfl
 exact zta hc j
theorem rd_row {W : World} {b c : Nat} {a : Option Addr} {L : List Nat} (h : W.ownsRow b 5 1 (.slice a L.length c) L.length (cBW L)) : RdBW W a L ∧ L.length ≤ c := by
 obtain ⟨ad, cap, e, hr⟩ := RdBW.own h
 cases e
 refine ⟨hr, ?_⟩
 rcases own_form h with ⟨e1, e2⟩ | ⟨g, c', e1, _, _, h3, _⟩
 · omega
 · cases e1
   exact h3
section
variable {w W : World} {base x : Nat} {A : NA} {s : Ns} {m : Nat} {o : OpN}
theorem do_any (h : Nd w base x A s) (hv : Nv m s) (hm : m ≤ 500) (hEn : Env w) (hbs : 2 < base) (ho : OpOk w o) (hnl : o.nl.length ≤ 300) :
   Calls Tryz.prog 10 #[.pointer (some ⟨x, 0, none⟩), .int .i64 (s.n : Int), .agg (opC o)] w (DoO w base x A s o) := by
 have hmx := mixO
 obtain ⟨w1, hw1⟩ : ∃ w1, w.alloc (.cells (opC o) 40) = w1 := ⟨_, rfl⟩
 have hb1 : Below w.heap.size w w1 := by rw [← hw1]; exact al1' _ _
 have g1 : OB w1 w.heap.size o := by rw [← hw1]; exact zna rfl
 obtain ⟨c0, c1, c2, c3, c4, c5, c6, c7, c8, c9, c10, c11⟩ := g1.c
 have hN1 := h.carry hb1
 have hE1 := hEn.carry hb1
 have ho1 := ho.carry hb1
 unfold opC at hw1 ⊢
 by_cases k1 : o.k = 1
 · have e1 : (o.k == 1) = true := beq_iff_eq.2 k1
   have hpl := poll_any hN1 hv hm hE1 hbs
   have HK : Hid (o.k = 1) := k1
   obtain ⟨E, hE⟩ : ∃ E, (dPoll s).2.2 = E := ⟨_, rfl⟩
   have HE : Hid ((dPoll s).2.2 = E) := hE
   rw [hE] at hpl
   clear k1 hE
   go_enter Tryz.func10, Tryz.ntmps10
   go_wp2_with (go_at_call 20; (with_reducible refine hpl.mono ?_); rintro r u ⟨v, l, A', rfl, hou, hs, hN, hM⟩; obtain ⟨va, vn, vc, rfl⟩ := hou.form)
   go_ret
   exact ⟨E, _, A', rfl, .inl ⟨HK.out, rfl, HE.out.symm⟩, hN, (Mv.of _ _ hb1).trans hM⟩
 have e1 : (o.k == 1) = false := beq_eq_false_iff_ne.2 k1
 have HK1 : Hid (o.k ≠ 1) := k1
 by_cases k3 : o.k = 3
 · have e2 : (o.k == 2) = false := by rw [k3]; rfl
   have e8 : (o.k == 8) = false := by rw [k3]; rfl
   have e3 : (o.k == 3) = true := beq_iff_eq.2 k3
   have hhe := hear_any hN1 hv hm hE1 hbs ho1.dl ho1.by_ ho1.dc
   obtain ⟨E, hE⟩ : ∃ E, (dHear s o.dl).2.2 = E := ⟨_, rfl⟩
   rw [hE] at hhe
   clear k1 k3 hE
   go_enter Tryz.func10, Tryz.ntmps10
   go_wp2_with (go_at_call 14; (with_reducible refine hhe.mono ?_); rintro r u ⟨v, l, A', rfl, hou, hs, hN, hM⟩; obtain ⟨va, vn, vc, rfl⟩ := hou.form)
   go_ret
   exact ⟨E, _, A', rfl, .inr ⟨HK1.out, .inr ⟨_, ho1.by_, rfl⟩⟩, hN, (Mv.of _ _ hb1).trans hM⟩
 have e3 : (o.k == 3) = false := beq_eq_false_iff_ne.2 k3
 by_cases k28 : o.k = 2 ∨ o.k = 8
 case neg =>
   have e2 : (o.k == 2) = false := beq_eq_false_iff_ne.2 (fun e => k28 (.inl e))
   have e8 : (o.k == 8) = false := beq_eq_false_iff_ne.2 (fun e => k28 (.inr e))
   clear k1 k3 k28
   go_enter Tryz.func10, Tryz.ntmps10
   go_wp2
   go_ret
   exact ⟨0, s, A, rfl, .inr ⟨HK1.out, .inl rfl⟩, hN1, Mv.of _ _ hb1⟩
 have hby := rbx_any o.nk o.nf o.nr (s.n : Int) o.nN ho1.nN o.na o.nc o.nl w1 ho1.nl (by omega)
 rcases k28 with k2 | k8
 · have e2 : (o.k == 2) = true := beq_iff_eq.2 k2
   have e8 : (o.k == 8) = false := by rw [k2]; rfl
   clear k1 k3 k2
   go_enter Tryz.func10, Tryz.ntmps10
   go_wp2_with (first | (go_at_call 17; (with_reducible refine hby.mono ?_); rintro r u ⟨a, n, c, E, rfl, hx, hb⟩; have g2 := g1.carry hb; obtain ⟨f0, f1, f2, _⟩ := g2.c))
   · go_ret
     exact ⟨E, s, A, rfl, .inr ⟨HK1.out, .inl rfl⟩, hN1.carry hb, Mv.of _ _ (bel2 hb1 hb)⟩
   · have hE0 : (E != 0) = false := by assumption
     obtain ⟨L, rfl, hrow, hb2, hp, hl6⟩ := hx (by simpa using hE0)
     obtain ⟨hrd, hcp⟩ := rd_row hrow
     have hhe := hear_any (hN1.carry hb) hv hm (hE1.carry hb) hbs hrd hb2 hcp
     obtain ⟨E2, hE2⟩ : ∃ E, (dHear s L).2.2 = E := ⟨_, rfl⟩
     rw [hE2] at hhe
     refine hhe.mono ?_
     rintro r u2 ⟨v, l, A', rfl, hou, hs, hN, hM⟩
     obtain ⟨va, vn, vc, rfl⟩ := hou.form
     clear hE2
     go_wp2
     go_ret
     exact ⟨E2, _, A', rfl, .inr ⟨HK1.out, .inr ⟨L, hb2, rfl⟩⟩, hN, (Mv.of _ _ (bel2 hb1 hb)).trans hM⟩
 · have e2 : (o.k == 2) = false := by rw [k8]; rfl
   have e8 : (o.k == 8) = true := beq_iff_eq.2 k8
   clear k1 k3 k8
   go_enter Tryz.func10, Tryz.ntmps10
   go_wp2_with (first | (go_at_call 17; (with_reducible refine hby.mono ?_); rintro r u ⟨a, n, c, E, rfl, hx, hb⟩; have g2 := g1.carry hb; obtain ⟨f0, f1, f2, _⟩ := g2.c))
   · go_ret
     exact ⟨E, s, A, rfl, .inr ⟨HK1.out, .inl rfl⟩, hN1.carry hb, Mv.of _ _ (bel2 hb1 hb)⟩
   · have hE0 : (E != 0) = false := by assumption
     have hn0 : n = 0 := by assumption
     obtain ⟨L, e, _, _, hp, _⟩ := hx (by simpa using hE0)
     exfalso
     omega
   · have hE0 : (E != 0) = false := by assumption
     have hn0 : ¬ n = 0 := by assumption
     have hsg : o.a.tmod ↑n < 0 := by assumption
     obtain ⟨L, rfl, hrow, hb2, hp, hl6⟩ := hx (by simpa using hE0)
     have hlt := Int.tmod_lt_of_pos o.a (b := (L.length : Int)) (by omega)
     have hgt := Int.lt_tmod_of_pos o.a (b := (L.length : Int)) (by omega)
     obtain ⟨K, hK⟩ : ∃ K : Nat, wrap64 (o.a.tmod (L.length : Int) + (L.length : Int)) = (K : Int) := ⟨(wrap64 (o.a.tmod (L.length : Int) + (L.length : Int))).toNat, by unfold wrap64; omega⟩
     have hKl : K < L.length := by have e : wrap64 (o.a.tmod (L.length : Int) + (L.length : Int)) = o.a.tmod (L.length : Int) + (L.length : Int) := (by unfold wrap64; omega); omega
     rw [hK]
     obtain ⟨gd, c', e'⟩ := own_some hrow hp
     cases e'
     obtain ⟨y, hy⟩ : ∃ y, L[K]? = some y := ⟨_, List.getElem?_eq_getElem hKl⟩
     have hy256 : y < 256 := hb2 y (List.mem_of_getElem? hy)
     have hbn : (o.b % 256).toNat < 256 := by omega
     have hbo : o.b % 256 = ((o.b % 256).toNat : Int) := by omega
     obtain ⟨bn, hbnE⟩ : ∃ bn, (o.b % 256).toNat = bn := ⟨_, rfl⟩
     rw [hbnE] at hbn hbo
     have hgl : gd < u.heap.size := (row_lt2 hrow gd rfl).2
     have hdis : w.heap.size ≠ gd := fun e => by have h1 := (row_lt2 hrow gd rfl).1; have h2 := zla g1; omega
     clear hE0 hn0 hsg hlt hgt hK hx hbnE
     refine wp_region_any hmx ?_
     refine zwl 11 (fun i__ => ([(.slice (some ⟨gd, 0, none⟩) L.length c), (.int .i64 (K : Int)), (.slice (some ⟨gd, 0, none⟩) L.length c), (.int .i64 (K : Int)), (.pointer (some ⟨gd, K, none⟩)), (.int .u8 (y : Int)), (.pointer (some ⟨w.heap.size, 2, none⟩)), (.int .i64 o.b), (.int .u8 (bn : Int)), (.int .u8 ((y ^^^ bn : Nat) : Int)), (.pointer (some ⟨gd, K, none⟩)), undef] : List Value).getD i__ undef) (fun V => V.ownsRow w1.heap.size 5 1 (.slice (some ⟨gd, 0, none⟩) L.length c) L.length (cBW L) ∧ Below u.heap.size u V) (fun V => V.ownsRow w1.heap.size 5 1 (.slice (some ⟨gd, 0, none⟩) L.length c) L.length (cBW (L.set K (y ^^^ bn))) ∧ TpZ gd u V) rfl (by kernel_rfl) (by kernel_rfl) ⟨zrb hrow (Below.refl _ _).drew, (Below.refl _ _).drew⟩ ?_ ?_  ?_
     · refine (sqc ?_ (sqc ?_ (sqc ?_ (sqc ?_ (sqc ?_ (sqc ?_ (sqc ?_ (sqc ?_ (sqc ?_ (sqc ?_ (sqc ?_ trivial)))))))))))
       · exact zmv rfl trivial _ rfl (by kernel_rfl)
       · exact zmv rfl trivial _ rfl (by kernel_rfl)
       · exact zmv rfl trivial _ rfl (by kernel_rfl)
       · exact zmv rfl trivial _ rfl (by kernel_rfl)
       · exact zia rfl trivial _ _ _ _ _ rfl rfl rfl (fun v hw => idx_by gd L.length c K hKl v)
       · exact zld rfl trivial _ _ _ rfl rfl (fun v hw => load_by ((hw.1.cellAt K (by omega)).trans (cB_getW hy)))
       · exact zfa rfl trivial _ _ _ _ rfl rfl (fun v hw => field_op2 v _)
       · exact zld rfl trivial _ _ _ rfl rfl (fun v hw => load_in ((g2.carry hw.2).c.2.2.1))
       · exact step_convert rfl trivial _ _ _ _ rfl rfl (fun v hw => conv_by o.b bn hbo v)
       · exact zbo rfl trivial _ _ _ _ _ _ _ rfl rfl rfl (fun v hw => bin_xorB y bn hy256 hbn)
       · exact zia rfl trivial _ _ _ _ _ rfl rfl rfl (fun v hw => idx_by gd L.length c K hKl v)
     · intro o ho
       cases ho
       exact step_store rfl trivial rfl _ _ _ _ _ rfl rfl rfl (fun v hw => ⟨_, store_by ((hw.1.cellAt K (by omega)).trans (cB_getW hy)) (own_thawB hw.1 K), by have := row_put (j := K) hw.1 (.int .u8 ((y ^^^ bn : Nat) : Int)); have e : (cBW L).set K (.int .u8 ((y ^^^ bn : Nat) : Int)) = cBW (L.set K (y ^^^ bn)) := (by simp [cBW, List.map_set]); rw [e] at this; exact this, (TpZ.of _ hw.2).trans (TpZ.set _ _ _ _)⟩)
     intro W hW
     first | refine hK _ _ ?_ | refine (‹∀ (a : Act) (w : World), Code.wp Tryz.prog _ _ a w → _›) _ _ ?_
     simp only [finL, List.getD_cons_zero, List.getD_cons_succ, Nat.zero_add, Nat.reduceAdd, List.setIfInBounds_toArray, List.set_cons_zero, List.set_cons_succ]
     obtain ⟨hrow2, ht2⟩ := hW
     have hb3 : BytW (L.set K (y ^^^ bn)) := by
       intro z hz
       rcases List.mem_or_eq_of_mem_set hz with q | q
       · exact hb2 z q
       · rw [q]
         exact Nat.xor_lt_two_pow (n := 8) hy256 hbn
     have hbu : Below w1.heap.size w1 W := hb.trans ⟨ht2.os, ht2.tape, ht2.output, ht2.size, fun k hk => ht2.block k (Nat.lt_of_lt_of_le hk hb.size) (by have := (row_lt2 hrow gd rfl).1; omega)⟩
     obtain ⟨L2, hL2⟩ : ∃ L2, L.set K (y ^^^ bn) = L2 := ⟨_, rfl⟩
     have hln : L.length = L2.length := by rw [← hL2]; simp
     rw [hL2] at hrow2 hb3
     rw [hln] at hrow2
     obtain ⟨hrd, hcp⟩ := rd_row hrow2
     have hhe := hear_any (hN1.carry hbu) hv hm (hE1.carry hbu) hbs hrd hb3 hcp
     obtain ⟨E2, hE2⟩ : ∃ E, (dHear s L2).2.2 = E := ⟨_, rfl⟩
     rw [hE2] at hhe
     rw [hln]
     clear hE2 hL2 hln hrow hrow2 hy
     go_wp2_with (go_at_call 14; (with_reducible refine hhe.mono ?_); rintro r u2 ⟨v, l, A', rfl, hou, hs, hN, hM⟩; obtain ⟨va, vn, vc, rfl⟩ := hou.form)
     go_ret
     exact ⟨E2, _, A', rfl, .inr ⟨HK1.out, .inr ⟨L2, hb3, rfl⟩⟩, hN, (Mv.of _ _ (bel2 hb1 hbu)).trans hM⟩
   · have hE0 : (E != 0) = false := by assumption
     have hn0 : ¬ n = 0 := by assumption
     have hsg : 0 ≤ o.a.tmod ↑n := by assumption
     obtain ⟨L, rfl, hrow, hb2, hp, hl6⟩ := hx (by simpa using hE0)
     have hlt := Int.tmod_lt_of_pos o.a (b := (L.length : Int)) (by omega)
     have hgt := Int.lt_tmod_of_pos o.a (b := (L.length : Int)) (by omega)
     obtain ⟨K, hK⟩ : ∃ K : Nat, o.a.tmod (L.length : Int) = (K : Int) := ⟨(o.a.tmod (L.length : Int)).toNat, by omega⟩
     have hKl : K < L.length := by omega
     rw [hK]
     obtain ⟨gd, c', e'⟩ := own_some hrow hp
     cases e'
     obtain ⟨y, hy⟩ : ∃ y, L[K]? = some y := ⟨_, List.getElem?_eq_getElem hKl⟩
     have hy256 : y < 256 := hb2 y (List.mem_of_getElem? hy)
     have hbn : (o.b % 256).toNat < 256 := by omega
     have hbo : o.b % 256 = ((o.b % 256).toNat : Int) := by omega
     obtain ⟨bn, hbnE⟩ : ∃ bn, (o.b % 256).toNat = bn := ⟨_, rfl⟩
     rw [hbnE] at hbn hbo
     have hgl : gd < u.heap.size := (row_lt2 hrow gd rfl).2
     have hdis : w.heap.size ≠ gd := fun e => by have h1 := (row_lt2 hrow gd rfl).1; have h2 := zla g1; omega
     clear hE0 hn0 hsg hlt hgt hK hx hbnE
     refine wp_region_any hmx ?_
     refine zwl 11 (fun i__ => ([(.slice (some ⟨gd, 0, none⟩) L.length c), (.int .i64 (K : Int)), (.slice (some ⟨gd, 0, none⟩) L.length c), (.int .i64 (K : Int)), (.pointer (some ⟨gd, K, none⟩)), (.int .u8 (y : Int)), (.pointer (some ⟨w.heap.size, 2, none⟩)), (.int .i64 o.b), (.int .u8 (bn : Int)), (.int .u8 ((y ^^^ bn : Nat) : Int)), (.pointer (some ⟨gd, K, none⟩)), undef] : List Value).getD i__ undef) (fun V => V.ownsRow w1.heap.size 5 1 (.slice (some ⟨gd, 0, none⟩) L.length c) L.length (cBW L) ∧ Below u.heap.size u V) (fun V => V.ownsRow w1.heap.size 5 1 (.slice (some ⟨gd, 0, none⟩) L.length c) L.length (cBW (L.set K (y ^^^ bn))) ∧ TpZ gd u V) rfl (by kernel_rfl) (by kernel_rfl) ⟨zrb hrow (Below.refl _ _).drew, (Below.refl _ _).drew⟩ ?_ ?_  ?_
     · refine (sqc ?_ (sqc ?_ (sqc ?_ (sqc ?_ (sqc ?_ (sqc ?_ (sqc ?_ (sqc ?_ (sqc ?_ (sqc ?_ (sqc ?_ trivial)))))))))))
       · exact zmv rfl trivial _ rfl (by kernel_rfl)
       · exact zmv rfl trivial _ rfl (by kernel_rfl)
       · exact zmv rfl trivial _ rfl (by kernel_rfl)
       · exact zmv rfl trivial _ rfl (by kernel_rfl)
       · exact zia rfl trivial _ _ _ _ _ rfl rfl rfl (fun v hw => idx_by gd L.length c K hKl v)
       · exact zld rfl trivial _ _ _ rfl rfl (fun v hw => load_by ((hw.1.cellAt K (by omega)).trans (cB_getW hy)))
       · exact zfa rfl trivial _ _ _ _ rfl rfl (fun v hw => field_op2 v _)
       · exact zld rfl trivial _ _ _ rfl rfl (fun v hw => load_in ((g2.carry hw.2).c.2.2.1))
       · exact step_convert rfl trivial _ _ _ _ rfl rfl (fun v hw => conv_by o.b bn hbo v)
       · exact zbo rfl trivial _ _ _ _ _ _ _ rfl rfl rfl (fun v hw => bin_xorB y bn hy256 hbn)
       · exact zia rfl trivial _ _ _ _ _ rfl rfl rfl (fun v hw => idx_by gd L.length c K hKl v)
     · intro o ho
       cases ho
       exact step_store rfl trivial rfl _ _ _ _ _ rfl rfl rfl (fun v hw => ⟨_, store_by ((hw.1.cellAt K (by omega)).trans (cB_getW hy)) (own_thawB hw.1 K), by have := row_put (j := K) hw.1 (.int .u8 ((y ^^^ bn : Nat) : Int)); have e : (cBW L).set K (.int .u8 ((y ^^^ bn : Nat) : Int)) = cBW (L.set K (y ^^^ bn)) := (by simp [cBW, List.map_set]); rw [e] at this; exact this, (TpZ.of _ hw.2).trans (TpZ.set _ _ _ _)⟩)
     intro W hW
     first | refine hK _ _ ?_ | refine (‹∀ (a : Act) (w : World), Code.wp Tryz.prog _ _ a w → _›) _ _ ?_
     simp only [finL, List.getD_cons_zero, List.getD_cons_succ, Nat.zero_add, Nat.reduceAdd, List.setIfInBounds_toArray, List.set_cons_zero, List.set_cons_succ]
     obtain ⟨hrow2, ht2⟩ := hW
     have hb3 : BytW (L.set K (y ^^^ bn)) := by
       intro z hz
       rcases List.mem_or_eq_of_mem_set hz with q | q
       · exact hb2 z q
       · rw [q]
         exact Nat.xor_lt_two_pow (n := 8) hy256 hbn
     have hbu : Below w1.heap.size w1 W := hb.trans ⟨ht2.os, ht2.tape, ht2.output, ht2.size, fun k hk => ht2.block k (Nat.lt_of_lt_of_le hk hb.size) (by have := (row_lt2 hrow gd rfl).1; omega)⟩
     obtain ⟨L2, hL2⟩ : ∃ L2, L.set K (y ^^^ bn) = L2 := ⟨_, rfl⟩
     have hln : L.length = L2.length := by rw [← hL2]; simp
     rw [hL2] at hrow2 hb3
     rw [hln] at hrow2
     obtain ⟨hrd, hcp⟩ := rd_row hrow2
     have hhe := hear_any (hN1.carry hbu) hv hm (hE1.carry hbu) hbs hrd hb3 hcp
     obtain ⟨E2, hE2⟩ : ∃ E, (dHear s L2).2.2 = E := ⟨_, rfl⟩
     rw [hE2] at hhe
     rw [hln]
     clear hE2 hL2 hln hrow hrow2 hy
     go_wp2_with (go_at_call 14; (with_reducible refine hhe.mono ?_); rintro r u2 ⟨v, l, A', rfl, hou, hs, hN, hM⟩; obtain ⟨va, vn, vc, rfl⟩ := hou.form)
     go_ret
     exact ⟨E2, _, A', rfl, .inr ⟨HK1.out, .inr ⟨L2, hb3, rfl⟩⟩, hN, (Mv.of _ _ (bel2 hb1 hbu)).trans hM⟩
end
end Go.Proofs.YtekjhcnaabpfmaaGreatDoor
namespace Go.Proofs.YtekjhcnaabpfmaaGreatDoor
open Go.RowKit Go.Shelf Go.Lib
attribute [local go_sem] Oper.semAt_some
def lgt1 (o : OpN) : Bool := decide (o.dl.length ≤ 2000) && decide (o.nl.length ≤ 300)
def lgt (l : List OpN) : Bool := decide (l.length ≤ 80) && l.all lgt1
theorem RdW.at {W : World} {ad : Option Addr} {l : List OpN} (h : RdW W ad l) {k : Nat} {o : OpN} (hk : l[k]? = some o) : ∃ b off, ad = some ⟨b, off, none⟩ ∧ b < W.heap.size ∧ W.cell? ⟨b, off + k * 12, none⟩ = some (.int .i64 o.k) ∧ W.cell? ⟨b, off + k * 12 + 1, none⟩ = some (.int .i64 o.a) ∧ W.cell? ⟨b, off + k * 12 + 2, none⟩ = some (.int .i64 o.b) ∧ W.cell? ⟨b, off + k * 12 + 3, none⟩ = some (.int .i64 o.nk) ∧ W.cell? ⟨b, off + k * 12 + 4, none⟩ = some (.int .i64 o.nf) ∧ W.cell? ⟨b, off + k * 12 + 5, none⟩ = some (.int .i64 o.nr) ∧ W.cell? ⟨b, off + k * 12 + 6, none⟩ = some (.int .u32 (wd o.nN 0 : Nat)) ∧ W.cell? ⟨b, off + k * 12 + 7, none⟩ = some (.int .u32 (wd o.nN 1 : Nat)) ∧ W.cell? ⟨b, off + k * 12 + 8, none⟩ = some (.int .u32 (wd o.nN 2 : Nat)) ∧ W.cell? ⟨b, off + k * 12 + 9, none⟩ = some (.int .u32 (wd o.nN 3 : Nat)) ∧ W.cell? ⟨b, off + k * 12 + 10, none⟩ = some (.slice o.na o.nl.length o.nc) ∧ W.cell? ⟨b, off + k * 12 + 11, none⟩ = some (.slice o.da o.dl.length o.dc) ∧ OpOk W o := by
 obtain ⟨b, off, e, hlt, hc, hok⟩ := h k o hk
 exact ⟨b, off, e, hlt, hc 0 (by omega), hc 1 (by omega), hc 2 (by omega), hc 3 (by omega), hc 4 (by omega), hc 5 (by omega), hc 6 (by omega), hc 7 (by omega), hc 8 (by omega), hc 9 (by omega), hc 10 (by omega), hc 11 (by omega), hok⟩
theorem light_W (w : World) (ad : Option Addr) (cap : Nat) (l : List OpN) (h : RdW w ad l) (hl : l.length ≤ maxLen) : Calls Tryz.prog 8 #[.slice ad l.length cap] w fun e w' => e = .returned (.bool (lgt l)) ∧ w' = w := by
 obtain ⟨n, hn⟩ : ∃ n, l.length = n := ⟨_, rfl⟩
 have HN : Hid (l.length = n) := hn
 obtain ⟨B, hB⟩ : ∃ B, lgt l = B := ⟨_, rfl⟩
 have HB : Hid (lgt l = B) := hB
 rw [hn] at hl ⊢
 rw [hB]
 clear hn hB
 by_cases h80 : 80 < n
 · have i1 : (n : Int) > 80 := by omega
   have HF : Hid (false = B) := by show _ = B; rw [← HB.out, lgt, HN.out, decide_eq_false (by omega)]; rfl
   go_enter Tryz.func8, Tryz.ntmps8
   go_wp2
   go_ret
   obtain rfl := HF.out; exact ⟨rfl, rfl⟩
 have i1 : ¬ ((n : Int) > 80) := by omega
 have HH : Hid (RdW w ad l) := h
 clear h
 go_enter Tryz.func8, Tryz.ntmps8
 go_wp2
 go_loopw [3] (fun i wz => ∃ (k : Nat), i = .int .i64 k ∧ k ≤ n ∧ wz = w ∧ Hid ((l.take k).all lgt1 = true)) (fun i _ => n - vnat i)
 case atStart => exact ⟨0, rfl, Nat.zero_le _, rfl, rfl⟩
 case round =>
   obtain ⟨k, rfl, hk, rfl, HK⟩ := hrel
   by_cases hkn : k < n
   · have hki : (k : Int) < (n : Int) := by omega
     obtain ⟨o, hx⟩ : ∃ o, l[k]? = some o := ⟨_, List.getElem?_eq_getElem (by rw [HN.out]; exact hkn)⟩
     obtain ⟨b, off, e1, hbl, c0, c1, c2, c3, c4, c5, c6, c7, c8, c9, c10, c11, hok⟩ := HH.out.at hx
     subst e1
     have HX : Hid (l[k]? = some o) := hx
     clear c0 c1 c2 c3 c4 c5 c6 c7 c8 c9 hok hx
     obtain ⟨dn, hdn⟩ : ∃ dn, o.dl.length = dn := ⟨_, rfl⟩
     obtain ⟨nn, hnn⟩ : ∃ nn, o.nl.length = nn := ⟨_, rfl⟩
     have H1 : Hid (o.dl.length = dn ∧ o.nl.length = nn) := ⟨hdn, hnn⟩
     rw [hdn] at c11
     rw [hnn] at c10
     clear hdn hnn
     by_cases hd : 2000 < dn
     · have j1 : (dn : Int) > 2000 := by omega
       have HF : Hid (false = B) := by
         show _ = B
         rw [← HB.out, lgt]
         have : l.all lgt1 = false := by
          by_cases q : l.all lgt1 = true
          · have := List.all_eq_true.1 q o (List.mem_of_getElem? HX.out)
            unfold lgt1 at this
            rw [H1.out.1, decide_eq_false (by omega)] at this
            simp at this
          · simpa using q
         rw [this]; simp
       go_wp2
       go_ret
       obtain rfl := HF.out; exact ⟨rfl, rfl⟩
     · have j1 : ¬ ((dn : Int) > 2000) := by omega
       by_cases hn3 : 300 < nn
       · have j2 : (nn : Int) > 300 := by omega
         have HF : Hid (false = B) := by
          show _ = B
          rw [← HB.out, lgt]
          have : l.all lgt1 = false := by
            by_cases q : l.all lgt1 = true
            · have := List.all_eq_true.1 q o (List.mem_of_getElem? HX.out)
              unfold lgt1 at this
              rw [H1.out.2, decide_eq_false (show ¬ nn ≤ 300 by omega)] at this
              simp at this
            · simpa using q
          rw [this]; simp
         go_wp2
         go_ret
         obtain rfl := HF.out; exact ⟨rfl, rfl⟩
       · have j2 : ¬ ((nn : Int) > 300) := by omega
         have HK1 : Hid ((l.take (k + 1)).all lgt1 = true) := by
          show _ = true
          rw [List.take_add_one, HX.out, List.all_append, HK.out]
          have : lgt1 o = true := by unfold lgt1; rw [H1.out.1, H1.out.2, decide_eq_true (by omega), decide_eq_true (by omega)]; rfl
          simpa using this
         go_wp2
         go_roundw
         case rel => exact ⟨k + 1, by simp, by omega, by trivial, HK1⟩
         case measure => simp [vnat]; omega
   · have hki : ¬ (k : Int) < (n : Int) := by omega
     obtain rfl : k = n := by omega
     have HT : Hid (true = B) := by
       show _ = B
       have h1 := HK.out
       rw [List.take_of_length_le (by rw [HN.out]; exact Nat.le_refl _)] at h1
       rw [← HB.out, lgt, h1, HN.out, decide_eq_true (by omega)]
       rfl
     go_wp2
     go_ret
     obtain rfl := HT.out; exact ⟨rfl, rfl⟩
end Go.Proofs.YtekjhcnaabpfmaaGreatDoor
namespace Go.Proofs.YtekjhcnaabpfmaaGreatDoor
open Go.ChangeShapes Go.WideShapes Go.ChangeAt Go.RowKit Go.Lib Go.Shelf
def lay3 : List (String × DataW Unit) := [("math/bits.deBruijn32tab", Rows.laid_math_bits_deBruijn32tab), ("errors.errorType", Rows.laid_errors_errorType), ("earshot/refute.errNotTaken", Rows.laid_earshot_refute_errNotTaken)]
def layT : List (String × DataW Unit) := [("math/bits.deBruijn32tab", Rows.laid_math_bits_deBruijn32tab)]
def layS : List (String × DataW Unit) := [("earshot/refute.errNotTaken", Rows.laid_earshot_refute_errNotTaken)]
def layP : List (String × DataW Unit) := [("math/bits.deBruijn32tab", Rows.laid_math_bits_deBruijn32tab), ("earshot/refute.errNotTaken", Rows.laid_earshot_refute_errNotTaken)]
theorem row_errS (u : TypeId) (h : Tryz.prog.typeName? 3 u = some "*errors.errorString") : u = 269 :=
 typeName_ptr_named (nm := "errors.errorString") (by rw [show "*" ++ "errors.errorString" = "*errors.errorString" by decide]; kernel_rfl) (by kernel_rfl) (by decide) u (by rw [show "*" ++ "errors.errorString" = "*errors.errorString" by decide]; exact h)
theorem sn_of {W : World} (h : laidMet Tryz.prog layS W) : ∃ a, Sn W a := by
 obtain ⟨a, s, hv, _⟩ := laid_sentinel h (show Tryz.prog.globalNamed "earshot/refute.errNotTaken" = some 1 by kernel_rfl) (show (Tryz.prog.globals[1]?).map (·.type) = some 112 by kernel_rfl) Tryz.underlying112 row_errS Tryz.underlying269 Tryz.underlying291 rfl rfl Tryz.underlying9 (by kernel_rfl) (by kernel_rfl)
 refine ⟨a, ?_⟩
 have := World.var?_cell (show Tryz.prog.globalNamed "earshot/refute.errNotTaken" = some 1 by kernel_rfl) hv 0
 unfold Sn
 simpa using this
theorem tab_of {W : World} (h : laidMet Tryz.prog layT W) : Tab W := by
 obtain ⟨ps, ⟨g, t, cs, fuel, p, q, hg, ht, hv, hd, _, hps⟩, _, hcells⟩ := h
 obtain rfl := Option.some.inj ((show Tryz.prog.globalNamed "math/bits.deBruijn32tab" = some 2 by kernel_rfl).symm.trans hg)
 obtain rfl := Option.some.inj ((show (Tryz.prog.globals[2]?).map (·.type) = some 91 by kernel_rfl).symm.trans ht)
 obtain ⟨xs, m, _, ex, _, hl, hel⟩ := DataW.trod_array Tryz.underlying91 hd
 have c5 : Tryz.prog.cellsOf 5 = 1 := by kernel_rfl
 have key : ∀ r, r < 32 → cs[r]? = some (.int .u8 (deBruijn32tab.getD r 0 : Nat)) := by
  intro r hr
  have hE := hel r hr
  rw [c5, Nat.mul_one, List.getElem?_eq_getElem (by omega)] at hE
  obtain ⟨z, e1, e2, _⟩ := DataW.trod_int Tryz.underlying5 hE
  have e3 : (xs.map (·.1)) = deBruijn32tab.map fun n => .lit (.int .u8 (n : Nat)) := (DataW.agg.inj (Prod.mk.inj ex).1).symm
  have hlen : deBruijn32tab.length = 32 := rfl
  have e4 : (xs.map (·.1))[r]? = (deBruijn32tab.map fun n => (DataW.lit (.int .u8 (n : Nat)) : DataW Unit))[r]? := by rw [e3]
  rw [List.getElem?_map, List.getElem?_map, List.getElem?_eq_getElem (by omega : r < xs.length), List.getElem?_eq_getElem (by omega : r < deBruijn32tab.length), e2] at e4
  have hz : z = (deBruijn32tab.getD r 0 : Nat) := by
   simp only [Option.map_some, Option.some.injEq, DataW.lit.injEq, Lit.int.injEq, true_and] at e4
   rw [e4, List.getD, List.getElem?_eq_getElem (by omega : r < deBruijn32tab.length)]; rfl
  rw [← hz]
  have h0 : ((cs.toList.drop r).take 1)[0]? = some (.int .u8 z) := by rw [e1]; rfl
  simpa using h0
 have hs : 0 < cs.size := by have := (Array.getElem?_eq_some_iff.1 (key 0 (by decide))).1; exact this
 have hm : MemPlace.cell 2 0 ∈ ps := by
  rw [hps]
  refine List.mem_append_left _ (List.mem_append_left _ ?_)
  exact List.mem_map.2 ⟨0, List.mem_range.2 hs, rfl⟩
 obtain ⟨⟨c, t, hc⟩, _⟩ := hcells 2 0 hm
 refine ⟨c, t, hc, fun j hj => ?_⟩
 have h1 := World.var?_cell hg hv j
 rw [key j hj] at h1
 simpa [World.cell?, hc] using h1
theorem oneErr : ((List.range Tryz.prog.types.size).filter fun t => Tryz.prog.rowNamed t [101, 114, 114, 111, 114]) = [112] := by kernel_rfl
theorem et_of {W : World} (h : handlesMet Tryz.prog [("errors.errorType", Rows.laid_errors_errorType)] W) : Et W := by
 obtain ⟨name, u, ty, e1, e2, e3, e4, e5⟩ := h _ (List.mem_singleton.2 rfl)
 have en : name = [101, 114, 114, 111, 114] := (Option.some.inj e1).symm
 subst en
 obtain rfl := Option.some.inj ((show (Tryz.prog.cutTypes.find? (·.1 == "internal/reflectlite.rtype")).map (·.2) = some 233 by kernel_rfl).symm.trans e2)
 have hm : ty ∈ (List.range Tryz.prog.types.size).filter fun t => Tryz.prog.rowNamed t [101, 114, 114, 111, 114] := List.mem_filter.2 ⟨List.mem_range.2 e3, e4⟩
 rw [oneErr] at hm
 obtain rfl := List.mem_singleton.1 hm
 have hh : typeHandle Tryz.prog 112 = .pointer (some ⟨3, 112, none⟩) := by kernel_rfl
 rw [hh] at e5
 have := World.var?_cell (show Tryz.prog.globalNamed "errors.errorType" = some 0 by kernel_rfl) e5 0
 unfold Et
 simpa using this
theorem env_of {W : World} (h : laidMetH Tryz.prog lay3 W) : Env W := by
 obtain ⟨h1, h2⟩ := laidMetH_iff.1 h
 have a1 : (lay3.filter fun x => x.2.handleName?.isNone) = layP := rfl
 have a2 : (lay3.filter fun x => x.2.handleName?.isSome) = [("errors.errorType", Rows.laid_errors_errorType)] := rfl
 rw [a1] at h1
 rw [a2] at h2
 have b1 := h1.filter fun x => x.1 == "math/bits.deBruijn32tab"
 have b2 := h1.filter fun x => x.1 == "earshot/refute.errNotTaken"
 rw [show (layP.filter fun x => x.1 == "math/bits.deBruijn32tab") = layT by kernel_rfl] at b1
 rw [show (layP.filter fun x => x.1 == "earshot/refute.errNotTaken") = layS by kernel_rfl] at b2
 exact ⟨et_of h2, sn_of b2, tab_of b1⟩
theorem size_of {W : World} (h : Env W) : 2 < W.heap.size := by
 obtain ⟨c, t, hc, _⟩ := h.tab
 have := (Array.getElem?_eq_some_iff.1 hc).1
 obtain ⟨a, ha⟩ := h.sn
 have hs : W.heap[1]? ≠ none := by
  intro e
  unfold Sn World.cell? at ha
  rw [e] at ha
  cases ha
 have h2 : 1 < W.heap.size := by
  rcases Nat.lt_or_ge 1 W.heap.size with k | k
  · exact k
  · exact absurd (Array.getElem?_eq_none k) hs
 omega
def hatch (w : World) : World :=
 { w with heap := w.heap.modify 0 fun
  | .cells _ t frozen => .cells #[.iface 233 (.agg #[.pointer (some ⟨3, 112, none⟩)])] t frozen
  | o => o }
theorem hatch_os (w : World) : (hatch w).os = w.os := rfl
noncomputable def world3 (os : Os) : World := hatch (World.laidAll Tryz.prog os layP)
theorem world3_os (os : Os) : (world3 os).os = os := by
 unfold world3
 rw [hatch_os]
 exact World.laidAll_os Tryz.prog os layP
theorem world3_met (os : Os) (args : Array Value) : laidMetH Tryz.prog lay3 ((world3 os).forCall (fun _ _ => 0) ⟨#[], args, []⟩).memory :=
 laidMetH_of_parts (laidMet_of_run' 8 (by kernel_rfl) (by kernel_rfl)) (by kernel_rfl)
end Go.Proofs.YtekjhcnaabpfmaaGreatDoor
