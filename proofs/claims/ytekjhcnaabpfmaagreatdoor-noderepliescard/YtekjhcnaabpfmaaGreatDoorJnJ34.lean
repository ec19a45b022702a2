import Derived.Test.YtekjhcnaabpfmaaGreatDoorJnJ33
import Derived.Test.YtekjhcnaabpfmaaGreatDoorJnJ30
import Derived.Test.YtekjhcnaabpfmaaGreatDoorJnJ25
import Derived.Test.YtekjhcnaabpfmaaGreatDoorJnJ17
import Derived.Test.YtekjhcnaabpfmaaGreatDoorJnJ31
set_option maxHeartbeats 40000000
set_option maxRecDepth 100000
set_option linter.unusedVariables false
namespace Go.Proofs.YtekjhcnaabpfmaaGreatDoor
open Go.RowKit Go.Shelf Go.Lib
attribute [local go_sem] Oper.semAt_some
theorem cmQ_Sender (v : Value) (w : World) : (callMethod (.iface 71 v) "Sender" #[]).run Tryz.prog w = .ok (.enter 214 #[v]) w := by kernel_rfl
theorem cmQ_Notices (v : Value) (w : World) : (callMethod (.iface 71 v) "Notices" #[]).run Tryz.prog w = .ok (.enter 213 #[v]) w := by kernel_rfl
theorem cmP_Sender (v : Value) (w : World) : (callMethod (.iface 62 v) "Sender" #[]).run Tryz.prog w = .ok (.enter 203 #[v]) w := by kernel_rfl
theorem cmP_Notices (v : Value) (w : World) : (callMethod (.iface 62 v) "Notices" #[]).run Tryz.prog w = .ok (.enter 202 #[v]) w := by kernel_rfl
theorem cmU_Sender (v : Value) (w : World) : (callMethod (.iface 156 v) "Sender" #[]).run Tryz.prog w = .ok (.enter 219 #[v]) w := by kernel_rfl
theorem cmU_Notices (v : Value) (w : World) : (callMethod (.iface 156 v) "Notices" #[]).run Tryz.prog w = .ok (.enter 218 #[v]) w := by kernel_rfl
theorem stepG_invoke {G : Type} {P : Program} {md : Region.Mode} {ops : Array Oper} {Q : Exit → Act → World → Prop} {X0 : Array Value} {val : G → Nat → Value} {J : G → (Nat → Bool) → World → Prop} {i : Nat} {o : Oper}
  (hi : ops[i]? = some o) (hg : ∀ g, GOk md ops X0 (val g) i o) (f : FuncId) (x : Operand) (name : String) (r : Value) (vs : List Value) (ho : o.op = .call { callee := .invoke x name, args := #[], argTypes := #[] })
  (hx : ∀ g, rdo md ops X0 (val g) i o x = some r) (hen : ∀ w, (callMethod r name #[]).run P w = .ok (.enter f vs.toArray) w)
  (hc : ∀ g d w, J g d w → d i = false → (∀ j, bindsOn md o j = true → d j = true) → (∀ j oj, ops[j]? = some oj → d j = true → ∀ k, bindsOn md oj k = true → d k = true) → Calls P f vs.toArray w fun e w' => ∃ g', e = .returned (val g' i) ∧ (∀ j, d j = true → val g' j = val g j) ∧ J g' (fun j => if j = i then true else d j) w') : StepG P md ops Q X0 val J i o := by
 intro g d a w hJ hun hdep hcl hS
 unfold wpOp
 rw [hi]
 have hS' : Seen md ops X0 (val g) i o a := hS
 simp only [wanted_of hS' (hg g), if_true]
 refine .inl ?_
 unfold Oper.wp execOp
 have e2 : a.eval x = r := hS'.eval (hx g)
 have e3 : (#[r] : Array Value)[0]? = some r := rfl
 have e4 : (#[r] : Array Value).extract 1 (#[r] : Array Value).size = #[] := rfl
 simp only [ho, resolve, e2, Sem.run_bind, Sem.run_pure, Result.andThen_ok, invoke, List.map_toArray, List.map_nil, Array.append_empty, e3, e4, hen, Oper.upon_enter]
 refine (hc g d w hJ hun hdep hcl).mono ?_
 rintro e' w' ⟨g', rfl, h1, h2⟩
 exact ⟨g', h1, rfl, h2⟩
theorem up_yes {w : World} {x : Nat} {q : Addr} {n f s : Int} {vk : Option Addr} {H : Nat} {vt : Option Addr} {vp : Value} (h : Nb w x (some q) n f s vk H vt vp) : Calls Tryz.prog 28 #[.pointer (some ⟨x, 0, none⟩)] w fun r w' => r = .returned (.bool true) ∧ w' = w := (up_any h).mono fun _ _ h => ⟨by simpa using h.1, h.2⟩
theorem dDe_H (s : Ns) : (dDe s).H = s.H := by unfold dDe dDf1; split <;> rfl
theorem dDe_t (s : Ns) : (dDe s).t = s.t := by unfold dDe dDf1; split <;> rfl
theorem dDe_n (s : Ns) : (dDe s).n = s.n := by unfold dDe dDf1; split <;> rfl
theorem dDe_f (s : Ns) : (dDe s).f = s.f := by unfold dDe dDf1; split <;> rfl
theorem dDe_s (s : Ns) : (dDe s).s = s.s := by unfold dDe dDf1; split <;> rfl
theorem dDf_len (l : List N3) (z : Int) (d : Dst) (b : Bo) : (dDf l z d b).l.length = l.length := by
 unfold dDf
 split
 · rfl
 · split
   · exact tke_len _ _
   · rfl
theorem dDe_len (s : Ns) : (dDe s).l.length = s.l.length := by
 unfold dDe dDf1
 split <;> exact dDf_len _ _ _ _
theorem RdN.mvY {W V : World} {x : Nat} {A A' : NA} {ad : Option Addr} {l : List N3} (hr : RdN W ad l) (hm : Mv x A A' W V) (hn : ∀ q, ad = some q → ¬ nown x A q.block) : RdN V ad l := fun hne => by
 obtain ⟨b, off, e, hlt, hat⟩ := hr hne
 have hs := hm.block b hlt (hn _ e)
 refine ⟨b, off, e, Nat.lt_of_lt_of_le hlt hm.size, fun k y hk => ?_⟩
 obtain ⟨c0, c1, c2⟩ := hat k y hk
 exact ⟨(World.cell?_of_block (w := W) hs).trans c0, (World.cell?_of_block (w := W) hs).trans c1, (World.cell?_of_block (w := W) hs).trans c2⟩
def HqO (w : World) (base x : Nat) (A : NA) (fr rd : Int) (s2 : Ns) (r : Ending) (w' : World) : Prop := ∃ v o A', r = .returned (.tuple #[v, .int .i64 0]) ∧ Outs w' w.heap.size v [o] ∧ Outs.say [o] = [(fr, dRepB s2 rd)] ∧ Nd w' base x A' s2 ∧ Mv x A A' w w'
structure Jn (w : World) (base x : Nat) (A : NA) (s s1 : Ns) (l : List N3) (g : Option Addr × Nat) (d9 d10 : Bool) (V : World) : Prop where
 nd : Nd V base x A (if d10 = true then s1 else s)
 mv : Mv x A A w V
 row : d9 = true → d10 = false → RdN V g.1 l
section
variable {w W : World} {base x : Nat} {A : NA} {s : Ns}
theorem hear_err (h : Nd w base x A s) {ad : Option Addr} {cap : Nat} {bs : List Nat} (hr : RdBW w ad bs) (hby : BytW bs) (hc : bs.length ≤ cap) {er : Int} (hd : dec (s.n : Int) bs = .error er) :
  Calls Tryz.prog 14 #[.pointer (some ⟨x, 0, none⟩), .slice ad bs.length cap] w fun r w' => r = .returned (.tuple #[.slice none 0 0, .int .i64 er]) ∧ Below w.heap.size w w' := by
 have hup := up_yes h.obj
 have c1 := h.obj.c1
 have hdc : Calls Tryz.prog 13 #[.slice ad bs.length cap, .int .i64 (s.n : Int)] w fun e w' => e = .returned (.tuple #[.nilIface, .int .i64 er]) ∧ Below w.heap.size w w' := (decode_any ad cap bs (s.n : Int) w hr hby hc).mono (by intro e w' hh; unfold DcO at hh; rw [hd] at hh; exact hh)
 have e0 : (er != 0) = true := by simpa using dec_err hd
 obtain ⟨m, hm⟩ : ∃ m, bs.length = m := ⟨_, rfl⟩
 rw [hm] at hdc ⊢
 clear hd hm
 go_enter Tryz.func14, Tryz.ntmps14
 go_wp2_with (first | (go_at_call 28; (with_reducible refine hup.mono ?_); rintro r u ⟨rfl, hu⟩; obtain rfl := hu.symm) | (go_at_call 13; (with_reducible refine hdc.mono ?_); rintro r u ⟨rfl, hb⟩))
 go_ret2
 exact ⟨rfl, hb⟩
end
end Go.Proofs.YtekjhcnaabpfmaaGreatDoor
namespace Go.Proofs.YtekjhcnaabpfmaaGreatDoor
open Go.RowKit Go.Shelf Go.Lib
attribute [local go_sem] Oper.semAt_some
def PlO (w : World) (base x : Nat) (A : NA) (L : List (Int × List Nat)) (E : Int) (s2 : Ns) (r : Ending) (w' : World) : Prop := ∃ v l A', r = .returned (.tuple #[v, .int .i64 E]) ∧ Outs w' w.heap.size v l ∧ Outs.say l = L ∧ Nd w' base x A' s2 ∧ Mv x A A' w w'
section
variable {w W : World} {base x : Nat} {A : NA} {s : Ns}
theorem dDb_len (s : Ns) : (dDb s).l.length = s.l.length := by
 unfold dDb
 have : ∀ (D : List N3) (s : Ns), (D.foldl stDb s).l.length = s.l.length := by
  intro D
  induction D with
  | nil => intro s; rfl
  | cons y D ih => intro s; rw [List.foldl_cons, ih]; exact tke_len _ _
 exact this _ _
theorem Outs.form {W : World} {b : Nat} {v : Value} {l : List OE} (h : Outs W b v l) : ∃ a n c, v = .slice a n c := by
 rcases own_form h.row with ⟨e1, e2⟩ | ⟨g, c, e1, _⟩
 · exact ⟨_, _, _, e1⟩
 · exact ⟨_, _, _, e1⟩
theorem poll_wait (h : Nd w base x A s) (hrd : rdy s.t = false) (hl0 : 0 < s.l.length) (hl1 : s.l.length ≤ 100) (hev : s.ev.length ≤ 1000000) (hn : s.n ≤ 100) :
  Calls Tryz.prog 20 #[.pointer (some ⟨x, 0, none⟩)] w (PlO w base x A (askTo s.n s.s (dAskB s)) 170 (dAsk s)) := by
 have hup := up_yes h.obj
 have c9 := h.obj.c9
 have hre := ready_any h.ta
 rw [hrd] at hre
 have hak := ask_any h hl0 hl1 hev hn
 go_enter Tryz.func20, Tryz.ntmps20
 go_wp2_with (first | (go_at_call 28; (with_reducible refine hup.mono ?_); rintro r u ⟨rfl, hu⟩; obtain rfl := hu.symm) | (go_at_call 49; (with_reducible refine hre.mono ?_); rintro r u ⟨rfl, hu⟩; obtain rfl := hu.symm) | (go_at_call 50; (with_reducible refine hak.mono ?_); rintro r u ⟨v, l, A', rfl, ho, hs, hN, hM⟩; obtain ⟨va, vn, vc, rfl⟩ := ho.form))
 go_ret2
 exact ⟨_, l, A', rfl, ho, hs, hN, hM⟩
theorem poll_ok (h : Nd w base x A s) (hrd : rdy s.t = true) (hEn : Env w) (hbs : 2 < base) (hk : OkB s.b) (hf : Fz s.d) (hw0 : 0 ≤ s.d.writes) (hw : s.d.writes ≤ 4611686018427387903) (he : (dNx s.d s.b).e = 0) (ht : s.t.hs.length ≤ 100000) (hev : s.ev.length ≤ 90000) (hR : s.t.reps < S128) (hnw : nwE (s.n : Int) (s.f : Int) (s.s : Int) (dNx s.d s.b).x s.t.reps = 0) (hl0 : 0 < s.l.length) (hl1 : s.l.length ≤ 100) (hev2 : (dCl s).ev.length ≤ 1000000) (hn : s.n ≤ 100) :
  Calls Tryz.prog 20 #[.pointer (some ⟨x, 0, none⟩)] w (PlO w base x A (askTo s.n s.s (dAskB (dCl s))) 0 (dAsk (dCl s))) := by
 have hup := up_yes h.obj
 have c9 := h.obj.c9
 have hre := ready_any h.ta
 rw [hrd] at hre
 have hcl := close_ok h hEn hbs hk hf hw0 hw he ht hev hR hnw
 have q1 : (dCl s).l.length = s.l.length := (dDb_len _).trans rfl
 have kk := stDb_keep (dDoubts (dCl2 (dCl1 s))) (dCl2 (dCl1 s))
 have q2 : (dCl s).n = s.n := kk.1
 have q3 : (dCl s).s = s.s := kk.2.2.1
 obtain ⟨s1, hs1⟩ : ∃ s1, dCl s = s1 := ⟨_, rfl⟩
 rw [hs1] at hcl q1 q2 q3 hev2 ⊢
 have hst := settle0 (.pointer (some ⟨x, 0, none⟩))
 have HQ : Hid (s1.n = s.n ∧ s1.s = s.s) := ⟨q2, q3⟩
 have hn1 : s1.n ≤ 100 := by omega
 have hl2 : 0 < s1.l.length ∧ s1.l.length ≤ 100 := by omega
 clear hs1 kk q1 q2 q3
 go_enter Tryz.func20, Tryz.ntmps20
 go_wp2_with (first | (go_at_call 28; (with_reducible refine hup.mono ?_); rintro r u ⟨rfl, hu⟩; obtain rfl := hu.symm) | (go_at_call 49; (with_reducible refine hre.mono ?_); rintro r u ⟨rfl, hu⟩; obtain rfl := hu.symm) | (go_at_call 51; (with_reducible refine hcl.mono ?_); rintro r u1 ⟨rfl, A1, hN1, hM1⟩) | (go_at_call 41; (with_reducible refine (hst _).mono ?_); rintro r u2 ⟨rfl, hb2⟩; have hak := ask_any (hN1.carry hb2) hl2.1 hl2.2 hev2 hn1) | (go_at_call 50; (with_reducible refine hak.mono ?_); rintro r u ⟨v, l, A', rfl, ho, hs, hN, hM⟩; obtain ⟨va, vn, vc, rfl⟩ := ho.form))
 go_ret2
 refine ⟨_, l, A', rfl, ho.base (Nat.le_trans hM1.size hb2.size), ?_, hN, (hM1.trans (Mv.of _ _ hb2)).trans hM⟩
 rw [hs, HQ.out.1, HQ.out.2]
end
end Go.Proofs.YtekjhcnaabpfmaaGreatDoor
namespace Go.Proofs.YtekjhcnaabpfmaaGreatDoor
open Go.RowKit Go.Shelf Go.Lib
attribute [local go_sem] Oper.semAt_some
def evBg (ta ro : Int) : Ev := ⟨1, 0, 0, ro, ta, 0, 0, 0, 0⟩
theorem evBg_V (ta ro : Int) : evV (evBg ta ro) = .agg #[.int .i64 1, .int .i64 0, .int .i64 0, .int .i64 ro, .int .i64 ta, .int .i64 0, .int .i64 0, .int .u32 0, .int .u32 0, .int .u32 0, .int .u32 0, .int .u32 0, .int .u32 0, .int .u32 0, .int .u32 0] := by simp [evV, ecA, evBg, wd_zero]
def dO (d : Dst) : Nx := dNx (dOp d).d (dOp d).b
def dOpen (n f s : Nat) (d : Dst) : Ns := ⟨n, f, s, (dO d).d, (dO d).b, bk0 n s (dO d).b.ta, fullN n, nwT (n : Int) (f : Int) (s : Int) (dO d).x (fullN n), [(evBg (dO d).b.ta (dO d).x).at (s : Int) (dO d).b.r.li]⟩
section
variable {w W : World} {base x : Nat} {A : NA} {s : Ns}
theorem Nb.put4 {vb : Option Addr} {n f s : Int} {vk : Option Addr} {H : Nat} {vt : Option Addr} {vp : Value} (h : Nb W x vb n f s vk H vt vp) (a : Option Addr) : Nb (W.setCell ⟨x, 4, none⟩ (.pointer a)) x vb n f s a H vt vp := by
 have := heap_setCell_same _ _ 4 _ _ (.pointer a) h
 exact this.trans rfl
theorem TpZ.more {V : World} {p b : Nat} (h : TpZ p w W) (ht : TpZ b W V) (hb : w.heap.size ≤ b) : TpZ p w V := ⟨ht.os.trans h.os, ht.tape.trans h.tape, ht.output.trans h.output, Nat.le_trans h.size ht.size, fun k hk hn => (ht.block k (Nat.lt_of_lt_of_le hk h.size) (by omega)).trans (h.block k hk hn)⟩
theorem TpZ.moreB {V : World} {p : Nat} (h : TpZ p w W) (ht : Below W.heap.size W V) : TpZ p w V := h.trans (TpZ.of _ ht)
theorem TpZ.moreQ {V : World} {p q : Nat} (h : TpZ p w W) (ht : Tq p q W V) (hq : w.heap.size ≤ q) : TpZ p w V := ⟨ht.os.trans h.os, ht.tape.trans h.tape, ht.output.trans h.output, Nat.le_trans h.size ht.size, fun k hk hn => (ht.block k (Nat.lt_of_lt_of_le hk h.size) hn (by omega)).trans (h.block k hk hn)⟩
theorem TpZ.moreT {V : World} {p x : Nat} {a : Option Nat} (h : TpZ p w W) (ht : Tn x none a W V) (hx : w.heap.size ≤ x) : TpZ p w V := ⟨ht.os.trans h.os, ht.tape.trans h.tape, ht.output.trans h.output, Nat.le_trans h.size ht.size, fun k hk hn => (ht.block k (Nat.lt_of_lt_of_le hk h.size) (by omega) (by simp)).trans (h.block k hk hn)⟩
theorem Tn.tp {V : World} {x : Nat} {a : Option Nat} (ht : Tn x none a W V) : TpZ x W V := ⟨ht.os, ht.tape, ht.output, ht.size, fun k hk hn => ht.block k hk hn (by simp)⟩
theorem Ta.tpx {b q : Nat} {ad : Option Addr} {cap : Nat} {t : Tl} {bb : Nat} (h : Ta w bb q ad cap t) (ht : TpZ b w W) (hb : b < bb) : Ta W bb q ad cap t := ⟨h.qb, (ht.block _ h.lt (by have := h.qb; omega)).trans h.obj, row_moved h.row (fun k e => ht.block k (row_lt2 h.row k e).2 (by have := (row_lt2 h.row k e).1; omega))⟩
theorem Bk.tpx {p g b : Nat} {l : List N3} (h : Bk w p g l) (ht : TpZ b w W) (h1 : p ≠ b) (h2 : g ≠ b) : Bk W p g l := ⟨(ht.block _ h.plt h1).trans h.obj, (ht.block _ h.glt h2).trans h.row⟩
theorem Bt.tpx {q b : Nat} {P : Option Addr} {y : Bo} (h : Bt w q P y) (ht : TpZ b w W) (h1 : q ≠ b) : Bt W q P y := (ht.block _ (zla h) h1).trans h
theorem nopen_ok {p : Nat} {d : Dst} (hD : Dk w p d) (hpb : base ≤ p) (hf : Fz d) (hw0 : 0 ≤ d.writes) (hw : d.writes ≤ 4611686018427387903) (hop : (dOp d).e = 0) (hk : OkB (dOp d).b) (hf1 : Fz (dOp d).d) (hw1 : 0 ≤ (dOp d).d.writes) (hw2 : (dOp d).d.writes ≤ 4611686018427387903) (hnx : (dO d).e = 0) (hta : 0 ≤ (dO d).b.ta ∧ (dO d).b.ta ≤ 1048576) {n f s : Nat} (hn1 : 1 ≤ n) (hn2 : n ≤ 100) (hfn : f < n) (hsn : s < n) (hnw : nwE (n : Int) (f : Int) (s : Int) (dO d).x (fullN n) = 0) :
   Calls Tryz.prog 6 #[.int .i64 (n : Int), .int .i64 (f : Int), .int .i64 (s : Int), .pointer (some ⟨p, 0, none⟩)] w fun r w' => ∃ x A, r = .returned (.tuple #[.pointer (some ⟨x, 0, none⟩), .int .i64 0]) ∧ Nd w' base x A (dOpen n f s d) ∧ A.p = p ∧ w.heap.size ≤ x ∧ TpZ p w w' := by
 have hbo : Calls Tryz.prog 21 #[.pointer (some ⟨p, 0, none⟩)] w fun e w' => ∃ q, e = .returned (.tuple #[.pointer (some ⟨q, 0, none⟩), .int .i64 0]) ∧ w.heap.size ≤ q ∧ Bt w' q (some ⟨p, 0, none⟩) (dOp d).b ∧ Dk w' p (dOp d).d ∧ TpZ p w w' := (open_any hD hf hw0 hw).mono (by rintro e w' ⟨h1, _, h3, h4⟩; obtain ⟨q, e1, e2, e3⟩ := h1 hop; exact ⟨q, e1, e2, e3, h3, h4⟩)
 have hnxt : ∀ V q, Bt V q (some ⟨p, 0, none⟩) (dOp d).b → Dk V p (dOp d).d → Calls Tryz.prog 22 #[.pointer (some ⟨q, 0, none⟩)] V fun e w' => e = .returned (.tuple #[.int .i64 (dO d).x, .int .i64 0]) ∧ Dk w' p (dO d).d ∧ Bt w' q (some ⟨p, 0, none⟩) (dO d).b ∧ Tq p q V w' := fun V q h1 h2 => by
   have := bnext_any h1 h2 hk hf1 hw1 hw2
   have e2 : (dNx (dOp d).d (dOp d).b).e = 0 := hnx
   rw [e2] at this
   exact this
 have hplt := hD.lt
 have hbsz : base ≤ w.heap.size := by omega
 obtain ⟨S, hS⟩ : ∃ S, dOpen n f s d = S := ⟨_, rfl⟩
 have HS : Hid (dOpen n f s d = S) := hS
 unfold dOpen at hS
 rw [HS.out]
 obtain ⟨R, hR⟩ : ∃ R, (dO d).x = R := ⟨_, rfl⟩
 obtain ⟨b1, hb1⟩ : ∃ b1, (dO d).b = b1 := ⟨_, rfl⟩
 obtain ⟨d1, hd1⟩ : ∃ d1, (dO d).d = d1 := ⟨_, rfl⟩
 rw [hR, hb1, hd1] at hnxt hS
 rw [hR] at hnw
 rw [hb1] at hta
 have HS2 : Hid ((⟨n, f, s, d1, b1, bk0 n s b1.ta, fullN n, nwT (n : Int) (f : Int) (s : Int) R (fullN n), [(evBg b1.ta R).at (s : Int) b1.r.li]⟩ : Ns) = S) := hS
 have hfu := full_any (n : Int)
 have efu : fullV (n : Int) = .tuple #[sv (fullN n), .int .i64 0] := by unfold fullV; rw [if_pos (by omega), Int.toNat_natCast]
 rw [efu] at hfu
 have hF128 : fullN n < S128 := by
   unfold fullN S128
   have : 2 ^ n ≤ 2 ^ 128 := Nat.pow_le_pow_right (by decide) (by omega)
   have := Nat.pos_of_ne_zero (show 2 ^ n ≠ 0 by simp)
   omega
 obtain ⟨FN, hFN⟩ : ∃ FN, fullN n = FN := ⟨_, rfl⟩
 have HFN : Hid (fullN n = FN) := hFN
 rw [hFN] at hfu hnw hF128
 simp only [sv] at hfu
 have hne := fun V => new_any (n : Int) (s : Int) b1.ta V
 have i1 : ¬ ((n : Int) < 1) := by omega
 have i2 : ¬ ((n : Int) > 100) := by omega
 have i3 : ¬ ((f : Int) < 0) := by omega
 have i4 : ¬ ((f : Int) ≥ (n : Int)) := by omega
 have i5 : ¬ ((s : Int) < 0) := by omega
 have i6 : ¬ ((s : Int) ≥ (n : Int)) := by omega
 clear hS hR hb1 hd1 hFN efu hop hk hnx
 go_enter Tryz.func6, Tryz.ntmps6
 go_wp2_with (first
   | (go_at_call 21; (with_reducible refine hbo.mono ?_); rintro r u1 ⟨q, rfl, hq1, hB1, hD1, ht1⟩; have hnx1 := hnxt u1 q hB1 hD1)
   | (go_at_call 22; (with_reducible refine hnx1.mono ?_); rintro r u2 ⟨rfl, hD2, hB2, ht2⟩; obtain ⟨u3, hu3⟩ : ∃ u3, u2.alloc (.cells #[.pointer (some ⟨q, 0, none⟩), .int .i64 (n : Int), .int .i64 (f : Int), .int .i64 (s : Int), .pointer none, .int .u32 0, .int .u32 0, .int .u32 0, .int .u32 0, .pointer none, .slice none 0 0] 82) = u3 := ⟨_, rfl⟩; have b3 : Below u2.heap.size u2 u3 := (by rw [← hu3]; exact al1' _ _); have n3 : Nb u3 u2.heap.size (some ⟨q, 0, none⟩) (n : Int) (f : Int) (s : Int) none 0 none (.slice none 0 0) := (by rw [← hu3]; exact zna rfl); have c30 := n3.c0; have hB3 := hB2.carry b3; have htg := btag_any hB3; have m3 := n3)
   | (go_at_call 23; (with_reducible refine (hne _).mono ?_); intro r u4 hv4; obtain ⟨bp, g, rfl, hbp, hg4, hbk4⟩ := hv4.ok (by omega) (by omega) (by omega); have b4 := hv4.1; have n4 := n3.carry b4; have c44 := n4.c4; have z44 := zta n4 4; obtain ⟨u5, hu5⟩ : ∃ u5, u4.setCell ⟨u2.heap.size, 4, none⟩ (.pointer (some ⟨bp, 0, none⟩)) = u5 := ⟨_, rfl⟩; have n5 : Nb u5 u2.heap.size (some ⟨q, 0, none⟩) (n : Int) (f : Int) (s : Int) (some ⟨bp, 0, none⟩) 0 none (.slice none 0 0) := (by rw [← hu5]; exact n4.put4 _); have t5 : TpZ u2.heap.size u4 u5 := (by rw [← hu5]; exact TpZ.set _ _ _ _))
   | (go_at_call 25; (with_reducible refine (hfu _).mono ?_); rintro r u6 ⟨rfl, b6⟩; have n6 := n5.carry b6; have z5 := zta n6 5; have z6 := zta n6 6; have z7 := zta n6 7; have z8 := zta n6 8; obtain ⟨y5, y6, y7, y8⟩ := n6.c5; obtain ⟨n7, t7⟩ := n6.putH FN; unfold setHd at n7 t7; obtain ⟨u7, hu7⟩ : ∃ V, (((u6.setCell ⟨u2.heap.size, 5, none⟩ (.int .u32 (wd FN 0 : Nat))).setCell ⟨u2.heap.size, 6, none⟩ (.int .u32 (wd FN 1 : Nat))).setCell ⟨u2.heap.size, 7, none⟩ (.int .u32 (wd FN 2 : Nat))).setCell ⟨u2.heap.size, 8, none⟩ (.int .u32 (wd FN 3 : Nat)) = V := ⟨_, rfl⟩; rw [hu7] at n7 t7; have hbg := begin_any n7 hF128 hnw)
   | (go_at_call 26; (with_reducible refine hbg.mono ?_); rintro r u8 ⟨rfl, tq, ta, tc, n8, hT8, t8⟩; have s9 := n8; have c80 := n8.c0; have hne1 : q ≠ u2.heap.size := (by have := zla hB2; omega); have hB8 := (((hB3.carry b4).tpx t5 hne1).carry b6 |>.tpx t7 hne1).tpx t8 hne1; have htg8 := btag_any hB8; have hrm := remember_any (base := w.heap.size) (l := []) n8 hB8 (World.ownsRow_nil _ _ _ _) (by have := ht1.size; have := ht2.size; have := b3.size; have := b4.size; have := t5.size; have := b6.size; have := t7.size; have := t8.size; omega) (by simp) (evBg b1.ta R); rw [evBg_V] at hrm)
   | (have m9 := s9; go_at_call 24; (with_reducible refine htg8.mono ?_); rintro r u ⟨rfl, hu⟩; obtain rfl := hu.symm)
   | (go_at_call 24; (with_reducible refine htg.mono ?_); rintro r u ⟨rfl, hu⟩; obtain rfl := hu.symm)
   | (go_at_call 27; (with_reducible refine hrm.mono ?_); rintro r u10 ⟨rfl, pa, pc, n10, r10, t10⟩))
 go_ret2
 have z1 := ht1.size
 have z2 := ht2.size
 have z3 := b3.size
 have z4 := b4.size
 have z5' := t5.size
 have z6' := b6.size
 have z7' := t7.size
 have z8' := t8.size
 have hx3 : u2.heap.size < u3.heap.size := n3.lt
 have t10' := t10.tp
 have hpx : p ≠ u2.heap.size := by omega
 refine ⟨u2.heap.size, ⟨q, p, bp, g, tq, ta, tc, pa, pc⟩, rfl, ?_, rfl, by omega, ?_⟩
 · rw [← HS2.out]
   refine ⟨?_, hB8.tpx t10' hne1, ?_, ?_, ?_, row_base r10 hbsz, (show base ≤ u2.heap.size by omega), (show base ≤ q by omega), hpb, (show base ≤ bp by omega), (show base ≤ g by omega)⟩
   · simp only [HFN.out]
     exact n10
   · exact (((((hD2.carry b3).carry b4).tp t5 hpx).carry b6).tp t7 hpx |>.tp t8 hpx).tp t10' hpx
   · have e1 : (n : Int).toNat = n := by omega
     have e2 : (s : Int).toNat = s := by omega
     rw [e1, e2] at hbk4
     exact ((((hbk4.tpx t5 (by omega) (by omega)).carry b6).tpx t7 (by omega) (by omega)).tpx t8 (by omega) (by omega)).tpx t10' (by omega) (by omega)
   · have hT := hT8.tpx t10' (by omega)
     simp only [HFN.out]
     exact ⟨by have := hT.qb; omega, hT.obj, row_base hT.row (by omega)⟩
 · exact (((((((ht1.moreQ ht2 hq1).moreB b3).moreB b4).more t5 (by omega)).moreB b6).more t7 (by omega)).more t8 (by omega)).moreT t10 (by omega)
end
end Go.Proofs.YtekjhcnaabpfmaaGreatDoor
namespace Go.Proofs.YtekjhcnaabpfmaaGreatDoor
open Go.RowKit Go.Shelf Go.Lib
attribute [local go_sem] Oper.semAt_some
structure Si where
 up : Bool
 li : Int
 ro : Int
 ta : Int
 su : Nat
 he : Nat
 re : Nat
 l : List N3
def siC (z : Si) (v : Value) : Array Value := #[.bool z.up, .int .i64 z.li, .int .i64 z.ro, .int .i64 z.ta, .int .u32 (wd z.su 0 : Nat), .int .u32 (wd z.su 1 : Nat), .int .u32 (wd z.su 2 : Nat), .int .u32 (wd z.su 3 : Nat), .int .u32 (wd z.he 0 : Nat), .int .u32 (wd z.he 1 : Nat), .int .u32 (wd z.he 2 : Nat), .int .u32 (wd z.he 3 : Nat), .int .u32 (wd z.re 0 : Nat), .int .u32 (wd z.re 1 : Nat), .int .u32 (wd z.re 2 : Nat), .int .u32 (wd z.re 3 : Nat), v]
def siZ : Array Value := #[.bool false, .int .i64 0, .int .i64 0, .int .i64 0, .int .u32 0, .int .u32 0, .int .u32 0, .int .u32 0, .int .u32 0, .int .u32 0, .int .u32 0, .int .u32 0, .int .u32 0, .int .u32 0, .int .u32 0, .int .u32 0, .slice none 0 0]
def dSi (s : Ns) : Si := ⟨true, s.b.r.li, s.t.ro, s.b.ta, sus s.l, s.H, s.t.reps, s.l⟩
theorem infoSi : (Tryz.prog.info? 42).map (·.size) = some 17 := by kernel_rfl
theorem bld_Si (a b c : Int) (S H R : Nat) (ad : Option Addr) (m k : Nat) (w : World) : (Instr.build 42 #[(0, .bool true), (1, .int .i64 a), (2, .int .i64 b), (3, .int .i64 c), (4, sv S), (5, sv H), (6, sv R), (7, .slice ad m k)]).run Tryz.prog w = .ok (.agg (siC ⟨true, a, b, c, S, H, R, []⟩ (.slice ad m k))) w := by unfold sv siC; go_simp
structure Jv (w u : World) (s : Ns) (g : Option Addr × Nat) (d33 d35 : Bool) (V : World) : Prop where
 be : Below u.heap.size u V ∨ d35 = true
 b0 : Below w.heap.size w V
 bx : V.heap[w.heap.size]? = some (.cells (if d35 = true then siC (dSi s) (.slice g.1 s.l.length g.2) else siZ) 42 (0, 0))
 row : d33 = true → V.ownsRow u.heap.size 65 3 (.slice g.1 s.l.length g.2) s.l.length (fl s.l)
theorem retSi {f : Func} {p : Tmp} {R : Ending → World → Prop} {a : Act} {w : World} {b : Nat} {C : Array Value} (hres : f.results = #[.cell p 42]) (hp : a.tmps.getD p undef = .pointer (some ⟨b, 0, none⟩)) (hd : a.defers = []) (h : w.heap[b]? = some (.cells C 42 (0, 0))) (hC : C.size = 17) (hR : R (.returned (.agg C)) w) : bodyPost Tryz.prog f R .ret a w :=
 bodyPost_ret (results_cell_row hres a.tmps w b _ _ (0, 0) _ hp h Tryz.underlying42 rfl (by rw [infoSi, hC])) hd hR
section
variable {w W : World} {base x : Nat} {A : NA} {s : Ns}
theorem sight_any (h : Nd w base x A s) (hl0 : 0 < s.l.length) (hl1 : s.l.length ≤ 100) (hbo : Bok s.l) :
  Calls Tryz.prog 11 #[.pointer (some ⟨x, 0, none⟩)] w fun r w' => ∃ a c, r = .returned (.agg (siC (dSi s) (.slice a s.l.length c))) ∧ w'.ownsRow w.heap.size 65 3 (.slice a s.l.length c) s.l.length (fl s.l) ∧ Below w.heap.size w w' := by
 have hmx := mixO
 obtain ⟨w1, hw1⟩ : ∃ w1, w.alloc (.cells siZ 42) = w1 := ⟨_, rfl⟩
 have hb1 : Below w.heap.size w w1 := by rw [← hw1]; exact al1' _ _
 have g1 : w1.heap[w.heap.size]? = some (.cells siZ 42 (0, 0)) := by rw [← hw1]; exact zna rfl
 unfold siZ at hw1
 have hN1 := h.carry hb1
 have hup := up_yes hN1.obj
 have hwl : w.heap.size < w1.heap.size := zla g1
 go_enter Tryz.func11, Tryz.ntmps11
 go_wp2_with (go_at_call 28; (with_reducible refine hup.mono ?_); rintro r u ⟨rfl, hu⟩; obtain rfl := hu.symm)
 rename_i hK
 refine wp_region_any hmx ?_
 refine zwt (G := (Option Addr × Nat)) (fun g i__ => ([(.pointer (some ⟨x, 0, none⟩)), (.pointer (some ⟨x, 0, none⟩)), (.pointer (some ⟨x, 0, none⟩)), (.pointer (some ⟨A.q, 0, none⟩)), (.int .i64 s.b.r.li), (.pointer (some ⟨x, 0, none⟩)), (.pointer (some ⟨x, 0, none⟩)), (.pointer (some ⟨x, 9, none⟩)), (.pointer (some ⟨A.tq, 0, none⟩)), (.int .i64 s.t.ro), (.pointer (some ⟨x, 0, none⟩)), (.pointer (some ⟨x, 0, none⟩)), (.pointer (some ⟨x, 0, none⟩)), (.pointer (some ⟨A.q, 0, none⟩)), (.int .i64 s.b.ta), (.pointer (some ⟨x, 0, none⟩)), (.pointer (some ⟨x, 0, none⟩)), (.pointer (some ⟨x, 4, none⟩)), (.pointer (some ⟨A.bp, 0, none⟩)), (sv (sus s.l)), (.pointer (some ⟨x, 0, none⟩)), (.pointer (some ⟨x, 0, none⟩)), (.pointer (some ⟨x, 5, none⟩)), (sv s.H), (.pointer (some ⟨x, 0, none⟩)), (.pointer (some ⟨x, 0, none⟩)), (.pointer (some ⟨x, 9, none⟩)), (.pointer (some ⟨A.tq, 0, none⟩)), (sv s.t.reps), (.pointer (some ⟨x, 0, none⟩)), (.pointer (some ⟨x, 0, none⟩)), (.pointer (some ⟨x, 4, none⟩)), (.pointer (some ⟨A.bp, 0, none⟩)), (.slice g.1 s.l.length g.2), (.agg (siC (dSi s) (.slice g.1 s.l.length g.2))), undef] : List Value).getD i__ undef) (fun g d V => Jv w w1 s g (d 33) (d 35) V) (by kernel_rfl) ((none, 0)) (show Jv w w1 s (none, 0) false false _ from ⟨.inl (Below.refl _ _).drew, hb1.drew, g1, fun e => (by cases e)⟩) ?step25 ?fin25
 case step25 =>
  intro i o ho
  have hi : i < 36 := getElem?_lt ho
  match i, hi, ho with
  | 0, _, ho => cases ho; exact zgc fun g d hun hdep hcl => zmv rfl trivial _ rfl (by kernel_rfl)
  | 1, _, ho => cases ho; exact zgc fun g d hun hdep hcl => znc rfl trivial _ _ _ rfl rfl rfl
  | 2, _, ho => cases ho; exact zgc fun g d hun hdep hcl => zfa rfl trivial _ _ _ _ rfl rfl (fun v hw => (zfn v _).1)
  | 3, _, ho => cases ho; exact zgc fun g d hun hdep hcl => zld rfl trivial _ _ _ rfl rfl (fun v hw => load_bt0 (h.carry hw.b0).obj.c0)
  | 4, _, ho => cases ho; exact zgc fun g d hun hdep hcl => zsc rfl trivial 29 _ _ [(.pointer (some ⟨A.q, 0, none⟩))] rfl (by kernel_rfl) (enters_of Tryz.func29 (by kernel_rfl) rfl) (fun v hw => (life_any (h.carry hw.b0).bt).mono (by rintro e w' ⟨rfl, hb⟩; exact ⟨rfl, hw.be.elim (fun q => .inl (bel2 q hb)) .inr, bel2 hw.b0 hb, (hb.block _ (zla hw.bx)).trans hw.bx, fun e => zrb (hw.row e) hb⟩))
  | 5, _, ho => cases ho; exact zgc fun g d hun hdep hcl => zmv rfl trivial _ rfl (by kernel_rfl)
  | 6, _, ho => cases ho; exact zgc fun g d hun hdep hcl => znc rfl trivial _ _ _ rfl rfl rfl
  | 7, _, ho => cases ho; exact zgc fun g d hun hdep hcl => zfa rfl trivial _ _ _ _ rfl rfl (fun v hw => (zfn v _).2.2.2.2.2.2.1)
  | 8, _, ho => cases ho; exact zgc fun g d hun hdep hcl => zld rfl trivial _ _ _ rfl rfl (fun v hw => load_ta0 (h.carry hw.b0).obj.c9)
  | 9, _, ho => cases ho; exact zgc fun g d hun hdep hcl => zsc rfl trivial 30 _ _ [(.pointer (some ⟨A.tq, 0, none⟩))] rfl (by kernel_rfl) (enters_of Tryz.func30 (by kernel_rfl) rfl) (fun v hw => (tround_any (h.carry hw.b0).ta).mono (by rintro e w' ⟨rfl, rfl⟩; exact ⟨rfl, hw⟩))
  | 10, _, ho => cases ho; exact zgc fun g d hun hdep hcl => zmv rfl trivial _ rfl (by kernel_rfl)
  | 11, _, ho => cases ho; exact zgc fun g d hun hdep hcl => znc rfl trivial _ _ _ rfl rfl rfl
  | 12, _, ho => cases ho; exact zgc fun g d hun hdep hcl => zfa rfl trivial _ _ _ _ rfl rfl (fun v hw => (zfn v _).1)
  | 13, _, ho => cases ho; exact zgc fun g d hun hdep hcl => zld rfl trivial _ _ _ rfl rfl (fun v hw => load_bt0 (h.carry hw.b0).obj.c0)
  | 14, _, ho => cases ho; exact zgc fun g d hun hdep hcl => zsc rfl trivial 24 _ _ [(.pointer (some ⟨A.q, 0, none⟩))] rfl (by kernel_rfl) (enters_of Tryz.func24 (by kernel_rfl) rfl) (fun v hw => (btag_any (h.carry hw.b0).bt).mono (by rintro e w' ⟨rfl, rfl⟩; exact ⟨rfl, hw⟩))
  | 15, _, ho => cases ho; exact zgc fun g d hun hdep hcl => zmv rfl trivial _ rfl (by kernel_rfl)
  | 16, _, ho => cases ho; exact zgc fun g d hun hdep hcl => znc rfl trivial _ _ _ rfl rfl rfl
  | 17, _, ho => cases ho; exact zgc fun g d hun hdep hcl => zfa rfl trivial _ _ _ _ rfl rfl (fun v hw => (zfn v _).2.2.2.2.1)
  | 18, _, ho => cases ho; exact zgc fun g d hun hdep hcl => zld rfl trivial _ _ _ rfl rfl (fun v hw => load_bk0 (h.carry hw.b0).obj.c4)
  | 19, _, ho => cases ho; exact zgc fun g d hun hdep hcl => zsc rfl trivial 31 _ _ [(.pointer (some ⟨A.bp, 0, none⟩))] rfl (by kernel_rfl) (enters_of Tryz.func31 (by kernel_rfl) rfl) (fun v hw => (sus_any (h.carry hw.b0).bk hl0 hl1 hbo).mono (by rintro e w' ⟨rfl, hb⟩; exact ⟨rfl, hw.be.elim (fun q => .inl (bel2 q hb)) .inr, bel2 hw.b0 hb, (hb.block _ (zla hw.bx)).trans hw.bx, fun e => zrb (hw.row e) hb⟩))
  | 20, _, ho => cases ho; exact zgc fun g d hun hdep hcl => zmv rfl trivial _ rfl (by kernel_rfl)
  | 21, _, ho => cases ho; exact zgc fun g d hun hdep hcl => znc rfl trivial _ _ _ rfl rfl rfl
  | 22, _, ho => cases ho; exact zgc fun g d hun hdep hcl => zfa rfl trivial _ _ _ _ rfl rfl (fun v hw => (zfn v _).2.2.2.2.2.1)
  | 23, _, ho => cases ho; exact zgc fun g d hun hdep hcl => zld rfl trivial _ _ _ rfl rfl (fun v hw => load_hd (h.carry hw.b0).obj.c5)
  | 24, _, ho => cases ho; exact zgc fun g d hun hdep hcl => zmv rfl trivial _ rfl (by kernel_rfl)
  | 25, _, ho => cases ho; exact zgc fun g d hun hdep hcl => znc rfl trivial _ _ _ rfl rfl rfl
  | 26, _, ho => cases ho; exact zgc fun g d hun hdep hcl => zfa rfl trivial _ _ _ _ rfl rfl (fun v hw => (zfn v _).2.2.2.2.2.2.1)
  | 27, _, ho => cases ho; exact zgc fun g d hun hdep hcl => zld rfl trivial _ _ _ rfl rfl (fun v hw => load_ta0 (h.carry hw.b0).obj.c9)
  | 28, _, ho => cases ho; exact zgc fun g d hun hdep hcl => zsc rfl trivial 32 _ _ [(.pointer (some ⟨A.tq, 0, none⟩))] rfl (by kernel_rfl) (enters_of Tryz.func32 (by kernel_rfl) rfl) (fun v hw => (reps_any (h.carry hw.b0).ta).mono (by rintro e w' ⟨rfl, hb⟩; exact ⟨rfl, hw.be.elim (fun q => .inl (bel2 q hb)) .inr, bel2 hw.b0 hb, (hb.block _ (zla hw.bx)).trans hw.bx, fun e => zrb (hw.row e) hb⟩))
  | 29, _, ho => cases ho; exact zgc fun g d hun hdep hcl => zmv rfl trivial _ rfl (by kernel_rfl)
  | 30, _, ho => cases ho; exact zgc fun g d hun hdep hcl => znc rfl trivial _ _ _ rfl rfl rfl
  | 31, _, ho => cases ho; exact zgc fun g d hun hdep hcl => zfa rfl trivial _ _ _ _ rfl rfl (fun v hw => (zfn v _).2.2.2.2.1)
  | 32, _, ho => cases ho; exact zgc fun g d hun hdep hcl => zld rfl trivial _ _ _ rfl rfl (fun v hw => load_bk0 (h.carry hw.b0).obj.c4)
  | 33, _, ho => cases ho; exact stepG_call rfl (fun _ => trivial) 33 _ _ (fun _ => [.pointer (some ⟨A.bp, 0, none⟩)]) rfl (fun g => by kernel_rfl) (enters_of Tryz.func33 (by kernel_rfl) rfl) (fun g d V hJ hun hdep hcl => (blist_any (h.carry hJ.b0).bk hl0 hl1).mono (by have h35 : d 35 = false := (by cases h : d 35 with | false => rfl | true => exact absurd (hcl 35 _ rfl h 33 (by kernel_rfl)) (by rw [hun]; simp)); have hJ' := hJ; rw [hun, h35] at hJ'; rintro e V' ⟨v, rfl, hm, hb⟩; rw [filter_all] at hm; obtain ⟨a, c, rfl, hrow⟩ := hm.form; have hbe : Below w1.heap.size w1 V := (hJ'.be).elim id (fun e => (by cases e)); refine ⟨(a, c), rfl, (fun j hj => match j, hj with | 33, hj => (by rw [hj] at hun; cases hun) | 34, hj => absurd ((hcl 34 _ rfl hj 33 (by kernel_rfl))) (by rw [hun]; simp) | 0, _ => rfl | 1, _ => rfl | 2, _ => rfl | 3, _ => rfl | 4, _ => rfl | 5, _ => rfl | 6, _ => rfl | 7, _ => rfl | 8, _ => rfl | 9, _ => rfl | 10, _ => rfl | 11, _ => rfl | 12, _ => rfl | 13, _ => rfl | 14, _ => rfl | 15, _ => rfl | 16, _ => rfl | 17, _ => rfl | 18, _ => rfl | 19, _ => rfl | 20, _ => rfl | 21, _ => rfl | 22, _ => rfl | 23, _ => rfl | 24, _ => rfl | 25, _ => rfl | 26, _ => rfl | 27, _ => rfl | 28, _ => rfl | 29, _ => rfl | 30, _ => rfl | 31, _ => rfl | 32, _ => rfl | 35, _ => rfl | _ + 36, _ => rfl), ?_⟩; show Jv w w1 s _ true (d 35) V'; rw [h35]; exact ⟨.inl (bel2 hbe hb), bel2 hJ'.b0 hb, (hb.block _ (zla hJ'.bx)).trans hJ'.bx, fun _ => row_base hrow hbe.size⟩))
  | 34, _, ho => cases ho; exact zgc fun g d hun hdep hcl => step_bld8 rfl trivial _ _ _ _ _ _ _ _ _ _ _ _ _ _ _ _ _ (.bool true) (.int .i64 s.b.r.li) (.int .i64 s.t.ro) (.int .i64 s.b.ta) (sv (sus s.l)) (sv s.H) (sv s.t.reps) (.slice g.1 s.l.length g.2) rfl rfl rfl rfl rfl rfl rfl rfl rfl (fun v hw => bld_Si _ _ _ _ _ _ _ _ _ v)
  | 35, _, ho => cases ho; exact stepG_store rfl rfl rfl _ _ _ (fun g => .pointer (some ⟨w.heap.size, 0, none⟩)) (fun g => .agg (siC (dSi s) (.slice g.1 s.l.length g.2))) rfl (fun g => by kernel_rfl) (fun g => by kernel_rfl) (fun g d V hJ hun hdep => by have h33 : d 33 = true := hdep 33 (by kernel_rfl); have hJ' := hJ; rw [h33, hun] at hJ'; obtain ⟨V', hr, h1, h2⟩ := store_whole hJ'.bx (siC (dSi s) (.slice g.1 s.l.length g.2)).toList infoSi rfl (by simp [siC, Value.oneCell']); refine ⟨V', hr, ?_⟩; show Jv w w1 s _ (d 33) true V'; rw [h33]; exact ⟨.inr rfl, TpZ.young hJ'.b0 h2 (Nat.le_refl _), h1, fun e => row_moved (hJ'.row e) (fun k hk => h2.block k (row_lt2 (hJ'.row e) k hk).2 (fun e2 => row_type (hJ'.row e) hJ'.bx (by decide) (e2 ▸ hk)))⟩)
 intro g d W hall hW
 first | refine hK _ _ ?_ | refine (‹∀ (a : Act) (w : World), Code.wp Tryz.prog _ _ a w → _›) _ _ ?_ | skip
 simp only [finL, List.getD_cons_zero, List.getD_cons_succ, Nat.zero_add, Nat.reduceAdd, List.setIfInBounds_toArray, List.set_cons_zero, List.set_cons_succ]
 rw [hall 33 (by decide), hall 35 (by decide)] at hW
 go_wp2
 refine retSi rfl rfl rfl hW.bx rfl ⟨g.1, g.2, rfl, row_base (hW.row rfl) hb1.size, hW.b0⟩
end
end Go.Proofs.YtekjhcnaabpfmaaGreatDoor
