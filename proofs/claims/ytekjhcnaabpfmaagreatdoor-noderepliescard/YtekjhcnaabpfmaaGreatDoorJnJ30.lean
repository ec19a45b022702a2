import Derived.Test.YtekjhcnaabpfmaaGreatDoorJnJ29
import Derived.Test.YtekjhcnaabpfmaaGreatDoorJnJ19
import Derived.Test.YtekjhcnaabpfmaaGreatDoorJnJ28
set_option maxHeartbeats 40000000
set_option maxRecDepth 100000
set_option linter.unusedVariables false
namespace Go.Proofs.YtekjhcnaabpfmaaGreatDoor
open Go.RowKit Go.Shelf Go.Lib
attribute [local go_sem] Oper.semAt_some
def evCl (ro : Int) (R K : Nat) : Ev := ⟨3, 0, 0, ro, 0, 0, 0, R, K⟩
def dCl1 (s : Ns) : Ns := { s with b := (dNx s.d s.b).b, d := (dNx s.d s.b).d }
def dCl2 (s : Ns) : Ns := { s with ev := s.ev ++ [(evCl s.t.ro s.t.reps (kn s.t)).at (s.s : Int) s.b.r.li], H := s.t.reps }
def dCl (s : Ns) : Ns := { dDb (dCl2 (dCl1 s)) with t := nwT (s.n : Int) (s.f : Int) (s.s : Int) (dNx s.d s.b).x s.t.reps }
theorem evCl_V (ro : Int) (R K : Nat) : evV (evCl ro R K) = .agg #[.int .i64 3, .int .i64 0, .int .i64 0, .int .i64 ro, .int .i64 0, .int .i64 0, .int .i64 0, .int .u32 (wd R 0 : Nat), .int .u32 (wd R 1 : Nat), .int .u32 (wd R 2 : Nat), .int .u32 (wd R 3 : Nat), .int .u32 (wd K 0 : Nat), .int .u32 (wd K 1 : Nat), .int .u32 (wd K 2 : Nat), .int .u32 (wd K 3 : Nat)] := rfl
theorem bld_E3 (ro : Int) (R K : Nat) (w : World) : (Instr.build 90 #[(0, .int .i64 3), (3, .int .i64 ro), (7, .agg #[.int .u32 (wd R 0 : Nat), .int .u32 (wd R 1 : Nat), .int .u32 (wd R 2 : Nat), .int .u32 (wd R 3 : Nat)]), (8, .agg #[.int .u32 (wd K 0 : Nat), .int .u32 (wd K 1 : Nat), .int .u32 (wd K 2 : Nat), .int .u32 (wd K 3 : Nat)])]).run Tryz.prog w = .ok (.agg #[.int .i64 3, .int .i64 0, .int .i64 0, .int .i64 ro, .int .i64 0, .int .i64 0, .int .i64 0, .int .u32 (wd R 0 : Nat), .int .u32 (wd R 1 : Nat), .int .u32 (wd R 2 : Nat), .int .u32 (wd R 3 : Nat), .int .u32 (wd K 0 : Nat), .int .u32 (wd K 1 : Nat), .int .u32 (wd K 2 : Nat), .int .u32 (wd K 3 : Nat)]) w := by go_simp
section
variable {w W : World} {base x : Nat} {A : NA} {s : Ns}
theorem close_ok (h : Nd w base x A s) (hEn : Env w) (hbs : 2 < base) (hk : OkB s.b) (hf : Fz s.d) (hw0 : 0 ≤ s.d.writes) (hw : s.d.writes ≤ 4611686018427387903) (he : (dNx s.d s.b).e = 0) (ht : s.t.hs.length ≤ 100000) (hev : s.ev.length ≤ 90000) (hR : s.t.reps < S128) (hnw : nwE (s.n : Int) (s.f : Int) (s.s : Int) (dNx s.d s.b).x s.t.reps = 0) :
  Calls Tryz.prog 51 #[.pointer (some ⟨x, 0, none⟩)] w fun r w' => r = .returned .nilIface ∧ ∃ A', Nd w' base x A' (dCl s) ∧ Mv x A A' w w' := by
 have hnx := bnext_any h.bt h.dk hk hf hw0 hw
 obtain ⟨X, hX⟩ : ∃ X, (dNx s.d s.b).x = X := ⟨_, rfl⟩
 have HX : Hid ((dNx s.d s.b).x = X) := hX
 rw [he, hX] at hnx
 rw [hX] at hnw
 have hbe := bld_E3
 obtain ⟨R, hRe⟩ : ∃ R, s.t.reps = R := ⟨_, rfl⟩
 have HR : Hid (s.t.reps = R) := hRe
 obtain ⟨K, hKe⟩ : ∃ K, kn s.t = K := ⟨_, rfl⟩
 have HKe : Hid (kn s.t = K) := hKe
 obtain ⟨ro, hro⟩ : ∃ ro, s.t.ro = ro := ⟨_, rfl⟩
 have HRo : Hid (s.t.ro = ro) := hro
 have c0 := h.obj.c0
 rw [hRe] at hR hnw
 clear hX he hRe hKe hro
 go_enter Tryz.func51, Tryz.ntmps51
 go_wp2_with (first
  | (go_at_call 22; (with_reducible refine hnx.mono ?_); rintro r u1 ⟨rfl, hD1, hB1, ht1⟩; obtain ⟨hN1, hM1⟩ := h.bd hB1 hD1 ht1; have d9 := hN1.obj.c9; have m1 := tround_any hN1.ta; (rw [HRo.out] at m1); have m2 := reps_any hN1.ta; (rw [HR.out] at m2); (simp only [sv] at m2))
  | (have st3 := m3; go_at_call 32; (with_reducible refine hrp2.mono ?_); rintro r u5 ⟨rfl, hb5⟩; have hN5 := hN4.carry hb5; have m5 := hN5; have z5 := zta hN5.obj 5; have z6 := zta hN5.obj 6; have z7 := zta hN5.obj 7; have z8 := zta hN5.obj 8; obtain ⟨y5, y6, y7, y8⟩ := hN5.obj.c5; obtain ⟨hN6, hM6⟩ := hN5.hrd R; unfold setHd at hN6 hM6; obtain ⟨V, hV⟩ : ∃ V, (((u5.setCell ⟨x, 5, none⟩ (.int .u32 (wd R 0 : Nat))).setCell ⟨x, 6, none⟩ (.int .u32 (wd R 1 : Nat))).setCell ⟨x, 7, none⟩ (.int .u32 (wd R 2 : Nat))).setCell ⟨x, 8, none⟩ (.int .u32 (wd R 3 : Nat)) = V := ⟨_, rfl⟩; rw [hV] at hN6 hM6; have hE6 : Env V := ((hEn.low (hM1.below h) hbs).low (((Mv.of x A (bel2 hb2 hb3)).trans hM4).below hN1) hbs).low (((Mv.of x A4 hb5).trans hM6).below hN4) hbs; have hdb := doubt_any hN6 hE6 ht (by simp; omega))
  | (go_at_call 30; (with_reducible refine m1.mono ?_); rintro r u ⟨rfl, hu⟩; obtain rfl := hu.symm)
  | (go_at_call 32; (with_reducible refine m2.mono ?_); rintro r u2 ⟨rfl, hb2⟩; have hkn := known_any (hN1.carry hb2).ta ht; (rw [HKe.out] at hkn); (simp only [sv] at hkn))
  | (go_at_call 98; (with_reducible refine hkn.mono ?_); rintro r u3 ⟨rfl, hb3⟩; have hN3 := hN1.carry (bel2 hb2 hb3); have hrm := remember_any hN3.obj hN3.bt hN3.past hN3.sz (by simp; omega) (evCl ro R K); (rw [evCl_V] at hrm))
  | (go_at_call 27; (with_reducible refine hrm.mono ?_); rintro r u4 ⟨rfl, ad4, cap4, n4, r4, t4⟩; obtain ⟨hN4, hM4⟩ := hN3.rem n4 r4 t4; obtain ⟨A4, hA4⟩ : ∃ A4, { A with pa := ad4, pc := cap4 } = A4 := ⟨_, rfl⟩; have htq : A4.tq = A.tq := (by rw [← hA4]); rw [hA4] at hN4 hM4; have m3 := hM4; have hrp2 := reps_any hN4.ta; (rw [htq] at hrp2); (simp only [HR.out, sv] at hrp2))
  | (go_at_call 99; (rw [htq] at hdb); (with_reducible refine hdb.mono ?_); rintro r u7 ⟨rfl, A7, hN7, hM7⟩; have m7 := hM7; obtain ⟨S6, hS6⟩ : ∃ S6 : Ns, { s with b := (dNx s.d s.b).b, d := (dNx s.d s.b).d, ev := s.ev ++ [(evCl ro R K).at (s.s : Int) (dNx s.d s.b).b.r.li], H := R } = S6 := ⟨_, rfl⟩; have HS6 : Hid ({ s with b := (dNx s.d s.b).b, d := (dNx s.d s.b).d, ev := s.ev ++ [(evCl ro R K).at (s.s : Int) (dNx s.d s.b).b.r.li], H := R } = S6) := hS6; replace hN7 : Nd u7 base x A7 (dDb S6) := (by rw [← hS6]; exact hN7); obtain ⟨k1, k2, k3, k4, k5, k6, k7, k8⟩ := stDb_keep (dDoubts S6) S6; have q1 : (dDb S6).n = s.n := k1.trans (by rw [← hS6]); have q2 : (dDb S6).f = s.f := k2.trans (by rw [← hS6]); have q3 : (dDb S6).s = s.s := k3.trans (by rw [← hS6]); have q6 : (dDb S6).H = R := k6.trans (by rw [← hS6]); have ho7 := hN7.obj; rw [q1, q2, q3, q6] at ho7; have hbg := begin_any ho7 hR hnw; clear hS6 k1 k2 k3 k4 k5 k6 k7 k8)
  | (go_at_call 26; (with_reducible refine hbg.mono ?_); rintro r u8 ⟨rfl, tq8, ad8, cap8, n8, t8, p8⟩))
 go_ret
 rw [← q1, ← q2, ← q3, ← q6] at n8 t8
 obtain ⟨hN8, hM8⟩ := hN7.beg n8 t8 p8
 refine ⟨rfl, _, ?_, ((((hM1.trans (Mv.of _ _ (bel2 hb2 hb3))).trans hM4).trans (Mv.of _ _ hb5)).trans hM6 |>.trans hM7).trans hM8⟩
 obtain rfl := HR.out
 obtain rfl := HKe.out
 obtain rfl := HRo.out
 have e : S6 = dCl2 (dCl1 s) := by rw [← HS6.out]; rfl
 have ht8 : nwT ((dDb S6).n : Int) ((dDb S6).f : Int) ((dDb S6).s : Int) X (dDb S6).H = nwT (s.n : Int) (s.f : Int) (s.s : Int) X s.t.reps := by rw [q1, q2, q3, q6]
 rw [ht8] at hN8
 unfold dCl
 rw [← e, HX.out]
 exact hN8
end
end Go.Proofs.YtekjhcnaabpfmaaGreatDoor
namespace Go.Proofs.YtekjhcnaabpfmaaGreatDoor
open Go.RowKit Go.Shelf Go.Lib
attribute [local go_sem] Oper.semAt_some
theorem step_field {P : Program} {md : Region.Mode} {ops : Array Oper} {Q : Exit → Act → World → Prop} {X0 : Array Value} {val : Nat → Value} {J : World → Prop} {i : Nat} {o : Oper} (hi : ops[i]? = some o) (hg : GOk md ops X0 val i o) (t : TypeId) (x : Operand) (k : Nat) (p : Value) (ho : o.op = .field t x k) (hx : rdo md ops X0 val i o x = some p) (hr : ∀ w, J w → (Instr.field t p k).run P w = .ok (val i) w) : StepAt P md ops Q X0 val J J i o :=
 step_of hi hg fun a w hJ hS => by
  unfold Oper.wp execOp
  simp only [ho, hS.eval hx, Sem.run_bind, hr w hJ, Result.andThen_ok, Sem.run_pure, Oper.upon_value]
  exact ⟨trivial, hJ⟩
def evDf (t du : Int) : Ev := ⟨5, 0, 0, 0, t, 0, du, 0, 0⟩
def dDf1 (s : Ns) : Ns := { s with l := (dDf s.l (s.s : Int) s.d s.b).l, d := (dDf s.l (s.s : Int) s.d s.b).d, b := (dDf s.l (s.s : Int) s.d s.b).b }
def dDe (s : Ns) : Ns := if (dDf s.l (s.s : Int) s.d s.b).did = true then { dDf1 s with ev := s.ev ++ [(evDf (dDf s.l (s.s : Int) s.d s.b).x.2.1 (dDf s.l (s.s : Int) s.d s.b).b.r.ta).at (s.s : Int) (dDf s.l (s.s : Int) s.d s.b).b.r.li] } else dDf1 s
theorem evDf_V (t du : Int) : evV (evDf t du) = .agg #[.int .i64 5, .int .i64 0, .int .i64 0, .int .i64 0, .int .i64 t, .int .i64 0, .int .i64 du, .int .u32 0, .int .u32 0, .int .u32 0, .int .u32 0, .int .u32 0, .int .u32 0, .int .u32 0, .int .u32 0] := by simp [evV, ecA, evDf, wd_zero]
theorem bld_E5 (t du : Int) (w : World) : (Instr.build 90 #[(0, .int .i64 5), (4, .int .i64 t), (6, .int .i64 du)]).run Tryz.prog w = .ok (.agg #[.int .i64 5, .int .i64 0, .int .i64 0, .int .i64 0, .int .i64 t, .int .i64 0, .int .i64 du, .int .u32 0, .int .u32 0, .int .u32 0, .int .u32 0, .int .u32 0, .int .u32 0, .int .u32 0, .int .u32 0]) w := by go_simp
theorem field_R2 (x y z : Int) (w : World) : (Instr.field 124 (.agg #[.int .i64 x, .int .i64 y, .int .i64 z]) 2).run Tryz.prog w = .ok (.int .i64 z) w := by kernel_rfl
structure Jf (w : World) (base x : Nat) (A : NA) (s s1 : Ns) (o t k : Int) (g : Nat) (d12 d17 d18 : Bool) (V : World) : Prop where
 nd : Nd V base x A (if d12 = true then s1 else s)
 mv : Mv x A A w V
 bx : d17 = true → w.heap.size ≤ g ∧ NB V g (if d18 = true then o else 0) (if d18 = true then t else 0) (if d18 = true then k else 0)
section
variable {w W V : World} {base x : Nat} {A : NA} {s : Ns}
theorem Mv.young {A' : NA} (h : Nd w base x A s) (_ : Mv x A A w W) (m2 : Mv x A A' W V) {k : Nat} (hk : w.heap.size ≤ k) (hk2 : k < W.heap.size) : V.heap[k]? = W.heap[k]? := m2.block k hk2 (fun e => by have := h.lt e; omega)
theorem Nd.off (h : Nd W base x A s) {b : Nat} (ht : TpZ b W V) (hn : ¬ nown x A b) (hk : b ≠ A.bp) : Nd V base x A s := by
 have hV : ∀ k, k < W.heap.size → ¬ (k = b) → V.heap[k]? = W.heap[k]? := fun k hk hn => ht.block k hk hn
 exact ⟨h.objS hV (fun e => hn (.inl e.symm)), h.btS hV (fun e => hn (.inr (.inl e.symm))), h.dkS hV (fun e => hn (.inr (.inr (.inl e.symm)))), h.bkS hV (fun e => hk e.symm) (fun e => hn (.inr (.inr (.inr (.inl e.symm))))), h.taS hV (fun e => hn (.inr (.inr (.inr (.inr (.inl e.symm)))))) (fun k e1 e => hn (.inr (.inr (.inr (.inr (.inr (.inl (e ▸ e1.symm)))))))), h.pastS hV (fun k e1 e => hn (.inr (.inr (.inr (.inr (.inr (.inr (e ▸ e1.symm)))))))), h.xb, h.qb, h.pb, h.kb, h.gb⟩
theorem Mv.offY {A' : NA} (m : Mv x A A' w W) {b : Nat} (ht : TpZ b W V) (hb : w.heap.size ≤ b) : Mv x A A' w V :=
 ⟨ht.os.trans m.os, ht.tape.trans m.tape, ht.output.trans m.output, Nat.le_trans m.size ht.size, fun k hk hn => (ht.block k (Nat.lt_of_lt_of_le hk m.size) (by omega)).trans (m.block k hk hn), m.own, m.sm⟩
theorem tp3 (W : World) (b : Nat) (o t k : Int) : TpZ b W (W3 W b o t k) := ((TpZ.set _ _ _ _).trans (TpZ.set _ _ _ _)).trans (TpZ.set _ _ _ _)
theorem defendN_any (h : Nd w base x A s) (hEn : Env w) (hbs : 2 < base) (hbo : Bok s.l) (hl : s.l.length ≤ 100) (hf : Fz s.d) (hw0 : 0 ≤ s.d.writes) (hw : s.d.writes ≤ 4611686018427387903) (hev : s.ev.length ≤ 100000) :
  Calls Tryz.prog 42 #[.pointer (some ⟨x, 0, none⟩)] w fun r w' => r = .returned (flV (dDf s.l (s.s : Int) s.d s.b).e) ∧ ∃ A', Nd w' base x A' (dDe s) ∧ Mv x A A' w w' := by
 have hmx := mixO
 obtain ⟨F, hF⟩ : ∃ F, dDf s.l (s.s : Int) s.d s.b = F := ⟨_, rfl⟩
 obtain ⟨s1, hs1⟩ : ∃ s1, dDf1 s = s1 := ⟨_, rfl⟩
 have hdf : ∀ V, Nd V base x A s → Mv x A A w V → Calls Tryz.prog 87 #[.pointer (some ⟨A.bp, 0, none⟩), .int .i64 (s.s : Int), .pointer (some ⟨A.q, 0, none⟩)] V fun e w' => e = .returned (.tuple #[nt F.x.1 F.x.2.1 F.x.2.2, .bool F.did, .int .i64 F.e]) ∧ Nd w' base x A s1 ∧ Mv x A A V w' := fun V hV hm => by
  obtain ⟨a, ha⟩ := (hEn.low (hm.below h) hbs).sn
  have h1 := defend_any hV.bk hbo hl hV.bt hV.dk hf hw0 hw ha (by have := h.gb; omega) (by have := h.qb; omega) (by have := h.pb; omega) (s.s : Int)
  rw [hF] at h1
  refine h1.mono ?_
  rintro r w' ⟨rfl, k1, k2, k3, k4⟩
  obtain ⟨h2, h3⟩ := hV.dfn k1 k3 k2 k4
  refine ⟨rfl, ?_, h3⟩
  rw [← hs1, dDf1, hF]
  exact h2
 obtain ⟨o, ho⟩ : ∃ o, F.x.1 = o := ⟨_, rfl⟩
 obtain ⟨t, hto⟩ : ∃ t, F.x.2.1 = t := ⟨_, rfl⟩
 obtain ⟨k, hko⟩ : ∃ k, F.x.2.2 = k := ⟨_, rfl⟩
 obtain ⟨B, hB⟩ : ∃ B, F.did = B := ⟨_, rfl⟩
 obtain ⟨E, hEe⟩ : ∃ E, F.e = E := ⟨_, rfl⟩
 rw [ho, hto, hko, hB, hEe] at hdf
 rw [hF, hEe]
 have hfa := failure_any E
 obtain ⟨v, hv⟩ : ∃ v, flV E = v := ⟨_, rfl⟩
 rw [hv] at hfa ⊢
 have hvf : v = .nilIface ∨ ∃ t y, v = .iface t y := by
  rw [← hv]; unfold flV
  split
  · exact .inl rfl
  · split <;> exact .inr ⟨_, _, rfl⟩
 have HF : Hid (dDf s.l (s.s : Int) s.d s.b = F) := hF
 have HS : Hid (dDf1 s = s1) := hs1
 have HT : Hid (F.x.2.1 = t) := hto
 have HB : Hid (F.did = B) := hB
 have hss : s1.s = s.s := by rw [← hs1]; rfl
 have hse : s1.ev = s.ev := by rw [← hs1]; rfl
 clear hF hs1 ho hto hko hB hEe hv
 go_enter Tryz.func42, Tryz.ntmps42
 go_wp2
 rename_i hK
 refine wp_region_any hmx ?_
 refine zwt (G := Nat) (fun g i__ => ([(.pointer (some ⟨x, 0, none⟩)), (.pointer (some ⟨x, 0, none⟩)), (.pointer (some ⟨x, 4, none⟩)), (.pointer (some ⟨A.bp, 0, none⟩)), (.pointer (some ⟨x, 0, none⟩)), (.pointer (some ⟨x, 0, none⟩)), (.pointer (some ⟨x, 3, none⟩)), (.int .i64 (s.s : Int)), (.pointer (some ⟨x, 0, none⟩)), (.pointer (some ⟨x, 0, none⟩)), (.pointer (some ⟨x, 0, none⟩)), (.pointer (some ⟨A.q, 0, none⟩)), (.tuple #[nt o t k, .bool B, .int .i64 E]), (.tuple #[nt o t k, .bool B, .int .i64 E]), (nt o t k), (.bool B), (.int .i64 E), (.pointer (some ⟨g, 0, none⟩)), undef, (.bool B), (.int .i64 E)] : List Value).getD i__ undef) (fun g d V => Jf w base x A s s1 o t k g (d 12) (d 17) (d 18) V) (by kernel_rfl) (0) (show Jf w base x A s s1 o t k 0 false false false _ from ⟨h.carry (Below.refl _ _).drew, Mv.of _ _ (Below.refl _ _).drew, fun e => (by cases e)⟩) ?step14 ?fin14
 case step14 =>
  intro i o ho
  have hi : i < 21 := getElem?_lt ho
  match i, hi, ho with
  | 0, _, ho => cases ho; exact zgo fun g d hdep => zmv rfl trivial _ rfl (by kernel_rfl)
  | 1, _, ho => cases ho; exact zgo fun g d hdep => znc rfl trivial _ _ _ rfl rfl rfl
  | 2, _, ho => cases ho; exact zgo fun g d hdep => zfa rfl trivial _ _ _ _ rfl rfl (fun v hw => (zfn v _).2.2.2.2.1)
  | 3, _, ho => cases ho; exact zgo fun g d hdep => zld rfl trivial _ _ _ rfl rfl (fun v hw => load_bk0 hw.nd.obj.c4)
  | 4, _, ho => cases ho; exact zgo fun g d hdep => zmv rfl trivial _ rfl (by kernel_rfl)
  | 5, _, ho => cases ho; exact zgo fun g d hdep => znc rfl trivial _ _ _ rfl rfl rfl
  | 6, _, ho => cases ho; exact zgo fun g d hdep => zfa rfl trivial _ _ _ _ rfl rfl (fun v hw => (zfn v _).2.2.2.1)
  | 7, _, ho => cases ho; exact zgo fun g d hdep => zld rfl trivial _ _ _ rfl rfl (fun v hw => load_in (by have h3 := hw.nd.obj.c3; split at h3 <;> first | exact h3 | (rw [hss] at h3; exact h3)))
  | 8, _, ho => cases ho; exact zgo fun g d hdep => zmv rfl trivial _ rfl (by kernel_rfl)
  | 9, _, ho => cases ho; exact zgo fun g d hdep => znc rfl trivial _ _ _ rfl rfl rfl
  | 10, _, ho => cases ho; exact zgo fun g d hdep => zfa rfl trivial _ _ _ _ rfl rfl (fun v hw => (zfn v _).1)
  | 11, _, ho => cases ho; exact zgo fun g d hdep => zld rfl trivial _ _ _ rfl rfl (fun v hw => load_bt0 hw.nd.obj.c0)
  | 12, _, ho => cases ho; exact stepG_call rfl (fun _ => trivial) 87 _ _ (fun _ => [.pointer (some ⟨A.bp, 0, none⟩), .int .i64 (s.s : Int), .pointer (some ⟨A.q, 0, none⟩)]) rfl (fun g => by kernel_rfl) (enters_of Tryz.func87 (by kernel_rfl) rfl) (fun g d V hJ hun hdep hcl => by have hJ' := hJ; rw [hun] at hJ'; refine (hdf V hJ'.nd hJ'.mv).mono ?_; rintro e V' ⟨rfl, h1, h2⟩; refine ⟨g, rfl, fun j hj => rfl, ?_⟩; show Jf w base x A s s1 o t k g true (d 17) (d 18) V'; exact ⟨h1, hJ'.mv.trans h2, fun e => ⟨(hJ'.bx e).1, (Mv.young h hJ'.mv h2 (hJ'.bx e).1 (hJ'.bx e).2.lt).trans (hJ'.bx e).2⟩⟩)
  | 13, _, ho => cases ho; exact zgo fun g d hdep => zmv rfl trivial _ rfl (by kernel_rfl)
  | 14, _, ho => cases ho; exact zgo fun g d hdep => step_extract rfl trivial _ _ _ rfl rfl (fun v hw => rfl)
  | 15, _, ho => cases ho; exact zgo fun g d hdep => step_extract rfl trivial _ _ _ rfl rfl (fun v hw => rfl)
  | 16, _, ho => cases ho; exact zgo fun g d hdep => step_extract rfl trivial _ _ _ rfl rfl (fun v hw => rfl)
  | 17, _, ho => cases ho; exact stepG_newT rfl rfl _ _ rfl run_allocN (fun g d V hJ hun hcl => by have h18 : d 18 = false := (by cases h : d 18 with | false => rfl | true => exact absurd (hcl 18 _ rfl h 17 (by kernel_rfl)) (by rw [hun]; simp)); have hJ' := hJ; rw [hun, h18] at hJ'; refine ⟨V.heap.size, (fun j hj => match j, hj with | 17, hj => (by rw [hj] at hun; cases hun)  | 0, _ => rfl | 1, _ => rfl | 2, _ => rfl | 3, _ => rfl | 4, _ => rfl | 5, _ => rfl | 6, _ => rfl | 7, _ => rfl | 8, _ => rfl | 9, _ => rfl | 10, _ => rfl | 11, _ => rfl | 12, _ => rfl | 13, _ => rfl | 14, _ => rfl | 15, _ => rfl | 16, _ => rfl | 18, _ => rfl | 19, _ => rfl | 20, _ => rfl | _ + 21, _ => rfl), rfl, ?_⟩; show Jf w base x A s s1 o t k _ (d 12) true (d 18) _; rw [h18]; exact ⟨hJ'.nd.carry (al1' _ _), hJ'.mv.trans (Mv.of _ _ (al1' _ _)), fun _ => ⟨hJ'.mv.size, NB.new _ _ _ _⟩⟩)
  | 18, _, ho => cases ho; exact stepG_store rfl rfl rfl _ _ _ (fun g => .pointer (some ⟨g, 0, none⟩)) (fun g => nt o t k) rfl (fun g => by kernel_rfl) (fun g => by kernel_rfl) (fun g d V hJ hun hdep => by have h17 : d 17 = true := hdep 17 (by kernel_rfl); have hJ' := hJ; rw [h17, hun] at hJ'; obtain ⟨hb0, hb1⟩ := hJ'.bx rfl; refine ⟨_, store_nt hb1 o t k, ?_⟩; show Jf w base x A s s1 o t k g (d 12) (d 17) true _; rw [h17]; exact ⟨hJ'.nd.off (tp3 _ _ _ _ _) (fun e => by have := h.lt e; omega) (by have := h.bk.plt; omega), hJ'.mv.offY (tp3 _ _ _ _ _) hb0, fun _ => ⟨hb0, by simpa using hb1.set o t k⟩⟩)
  | 19, _, ho => cases ho; exact zgo fun g d hdep => zas rfl trivial _ rfl (by kernel_rfl) (fun _ h => h)
  | 20, _, ho => cases ho; exact zgo fun g d hdep => zas rfl trivial _ rfl (by kernel_rfl) (fun _ h => h)
 intro g d W hall hW
 first | refine hK _ _ ?_ | refine (‹∀ (a : Act) (w : World), Code.wp Tryz.prog _ _ a w → _›) _ _ ?_ | skip
 simp only [finL, List.getD_cons_zero, List.getD_cons_succ, Nat.zero_add, Nat.reduceAdd, List.setIfInBounds_toArray, List.set_cons_zero, List.set_cons_succ]
 rw [hall 12 (by decide), hall 17 (by decide), hall 18 (by decide)] at hW
 have hN1 : Nd W base x A s1 := hW.nd
 have hM1 := hW.mv
 obtain ⟨hb0, hnb⟩ := hW.bx rfl
 simp only [if_true] at hnb
 clear hW hall hdf hK
 obtain ⟨W1, rfl⟩ : ∃ W1, W1 = W := ⟨_, rfl⟩
 cases B with
 | false =>
  have hfin : ∃ A', Nd W1 base x A' (dDe s) ∧ Mv x A A' w W1 := by
    refine ⟨A, ?_, hM1⟩
    unfold dDe
    rw [HF.out, if_neg (by rw [HB.out]; simp), HS.out]
    exact hN1
  have HFin : Hid (∃ A', Nd W1 base x A' (dDe s) ∧ Mv x A A' w W1) := hfin
  clear hfin
  rcases hvf with rfl | ⟨T, y, rfl⟩
  · go_wp2_with (go_at_call 88; (with_reducible refine (hfa _).mono ?_); rintro r u ⟨rfl, hu⟩; obtain rfl := hu.symm)
    go_ret
    exact ⟨rfl, HFin.out⟩
  · go_wp2_with (go_at_call 88; (with_reducible refine (hfa _).mono ?_); rintro r u ⟨rfl, hu⟩; obtain rfl := hu.symm)
    go_ret
    exact ⟨rfl, HFin.out⟩
 | true =>
  obtain ⟨s2, hs2⟩ : ∃ s2 : Ns, { s1 with ev := s1.ev ++ [(evDf t s1.b.r.ta).at (s1.s : Int) s1.b.r.li] } = s2 := ⟨_, rfl⟩
  have hrm : ∀ V, Below W1.heap.size W1 V → Calls Tryz.prog 27 #[.pointer (some ⟨x, 0, none⟩), .agg #[.int .i64 5, .int .i64 0, .int .i64 0, .int .i64 0, .int .i64 t, .int .i64 0, .int .i64 s1.b.r.ta, .int .u32 0, .int .u32 0, .int .u32 0, .int .u32 0, .int .u32 0, .int .u32 0, .int .u32 0, .int .u32 0]] V fun r w' => r = .returned (.tuple #[]) ∧ ∃ A2, Nd w' base x A2 s2 ∧ Mv x A A2 W1 w' := fun V hV => by
    have h0 := hN1.carry hV
    have h1 := remember_any h0.obj h0.bt h0.past h0.sz (by rw [hse]; omega) (evDf t s1.b.r.ta)
    rw [evDf_V] at h1
    refine h1.mono ?_
    rintro r w' ⟨rfl, ad, cap, n1, r1, t1⟩
    obtain ⟨h2, h3⟩ := h0.rem n1 r1 t1
    exact ⟨rfl, _, hs2 ▸ h2, (Mv.of _ _ hV).trans h3⟩
  have HE2 : Hid (dDe s = s2) := by
    show dDe s = s2
    unfold dDe
    have e1 : F.b = s1.b := by rw [← HS.out, ← HF.out]; rfl
    have e2 : (evDf t F.b.r.ta).at (s.s : Int) F.b.r.li = (evDf t s1.b.r.ta).at (s1.s : Int) s1.b.r.li := by rw [e1, hss]
    rw [HF.out, if_pos HB.out, HT.out, e2, ← hse, HS.out]
    exact hs2
  clear hs2
  go_wp2
  rename_i hK2
  refine wp_region_any hmx ?_
  refine zwl 10 (fun i__ => ([(.pointer (some ⟨x, 0, none⟩)), (.pointer (some ⟨g, 1, none⟩)), (.int .i64 t), (.pointer (some ⟨x, 0, none⟩)), (.pointer (some ⟨x, 0, none⟩)), (.pointer (some ⟨x, 0, none⟩)), (.pointer (some ⟨A.q, 0, none⟩)), (.agg #[.int .i64 s1.b.r.li, .int .i64 s1.b.r.ro, .int .i64 s1.b.r.ta]), (.int .i64 s1.b.r.ta), (.agg #[.int .i64 5, .int .i64 0, .int .i64 0, .int .i64 0, .int .i64 t, .int .i64 0, .int .i64 s1.b.r.ta, .int .u32 0, .int .u32 0, .int .u32 0, .int .u32 0, .int .u32 0, .int .u32 0, .int .u32 0, .int .u32 0]), (.tuple #[])] : List Value).getD i__ undef) (fun V => NB V g o t k ∧ Below W1.heap.size W1 V) (fun V => ∃ A2, Nd V base x A2 s2 ∧ Mv x A A2 W1 V) rfl (by kernel_rfl) (by kernel_rfl) ⟨hnb.carry (Below.refl _ _).drew, (Below.refl _ _).drew⟩ ?_ ?_  ?_
  · refine (sqc ?_ (sqc ?_ (sqc ?_ (sqc ?_ (sqc ?_ (sqc ?_ (sqc ?_ (sqc ?_ (sqc ?_ (sqc ?_ trivial))))))))))
    · exact zmv rfl trivial _ rfl (by kernel_rfl)
    · exact zfa rfl trivial _ _ _ _ rfl rfl (fun v hw => field_n1 v _)
    · exact zld rfl trivial _ _ _ rfl rfl (fun v hw => load_n1 hw.1)
    · exact zmv rfl trivial _ rfl (by kernel_rfl)
    · exact znc rfl trivial _ _ _ rfl rfl rfl
    · exact zfa rfl trivial _ _ _ _ rfl rfl (fun v hw => (zfn v _).1)
    · exact zld rfl trivial _ _ _ rfl rfl (fun v hw => load_bt0 (hN1.carry hw.2).obj.c0)
    · exact zsc rfl trivial 61 _ _ [(.pointer (some ⟨A.q, 0, none⟩))] rfl (by kernel_rfl) (enters_of Tryz.func61 (by kernel_rfl) rfl) (fun v hw => (durable_any (hN1.carry hw.2).bt).mono (by rintro e w' ⟨rfl, hb⟩; exact ⟨rfl, hw.1.carry hb, bel2 hw.2 hb⟩))
    · exact step_field rfl trivial _ _ _ _ rfl rfl (fun v hw => field_R2 _ _ _ v)
    · exact step_bld3 rfl trivial _ _ _ _ _ _ _ (Go.Value.int Go.IntKind.i64 5) (.int .i64 t) (.int .i64 s1.b.r.ta) rfl rfl rfl rfl (fun v hw => bld_E5 t s1.b.r.ta v)
  · intro o ho
    cases ho
    exact zsc rfl trivial 27 _ _ [(.pointer (some ⟨x, 0, none⟩)), (.agg #[.int .i64 5, .int .i64 0, .int .i64 0, .int .i64 0, .int .i64 t, .int .i64 0, .int .i64 s1.b.r.ta, .int .u32 0, .int .u32 0, .int .u32 0, .int .u32 0, .int .u32 0, .int .u32 0, .int .u32 0, .int .u32 0])] rfl (by kernel_rfl) (enters_of Tryz.func27 (by kernel_rfl) rfl) (fun v hw => hrm v hw.2)
  intro W hW
  first | refine hK _ _ ?_ | refine (‹∀ (a : Act) (w : World), Code.wp Tryz.prog _ _ a w → _›) _ _ ?_
  simp only [finL, List.getD_cons_zero, List.getD_cons_succ, Nat.zero_add, Nat.reduceAdd, List.setIfInBounds_toArray, List.set_cons_zero, List.set_cons_succ]
  obtain ⟨A2, hN2, hM2⟩ := hW
  have HFin : Hid (∃ A', Nd W base x A' (dDe s) ∧ Mv x A A' w W) := ⟨A2, HE2.out ▸ hN2, hM1.trans hM2⟩
  clear hrm hN2 hM2
  rcases hvf with rfl | ⟨T, y, rfl⟩
  · go_wp2_with (go_at_call 88; (with_reducible refine (hfa _).mono ?_); rintro r u ⟨rfl, hu⟩; obtain rfl := hu.symm)
    go_ret
    exact ⟨rfl, HFin.out⟩
  · go_wp2_with (go_at_call 88; (with_reducible refine (hfa _).mono ?_); rintro r u ⟨rfl, hu⟩; obtain rfl := hu.symm)
    go_ret
    exact ⟨rfl, HFin.out⟩
end
end Go.Proofs.YtekjhcnaabpfmaaGreatDoor
namespace Go.Proofs.YtekjhcnaabpfmaaGreatDoor
open Go.RowKit Go.Shelf
theorem FB.thaw {W : World} {b kd : Nat} {fr rd : Int} {N : Nat} {v : Value} (h : FB W b kd fr rd N v) (j : Nat) : W.frozen? ⟨b, j, none⟩ = false := zta h j
theorem FB.set0 {W : World} {b kd : Nat} {fr rd : Int} {N : Nat} {v : Value} (h : FB W b kd fr rd N v) (x : Nat) : FB (W.setCell ⟨b, 0, none⟩ (.int .i64 (x : Int))) b x fr rd N v := (set_get 0 _ h).trans (by simp [fcs])
theorem FB.set1 {W : World} {b kd : Nat} {fr rd : Int} {N : Nat} {v : Value} (h : FB W b kd fr rd N v) (x : Int) : FB (W.setCell ⟨b, 1, none⟩ (.int .i64 x)) b kd x rd N v := (set_get 1 _ h).trans (by simp [fcs])
theorem FB.set2 {W : World} {b kd : Nat} {fr rd : Int} {N : Nat} {v : Value} (h : FB W b kd fr rd N v) (x : Int) : FB (W.setCell ⟨b, 2, none⟩ (.int .i64 x)) b kd fr x N v := (set_get 2 _ h).trans (by simp [fcs])
def W4 (W : World) (b M : Nat) : World := (((W.setCell ⟨b, 3, none⟩ (.int .u32 (wd M 0 : Nat))).setCell ⟨b, 4, none⟩ (.int .u32 (wd M 1 : Nat))).setCell ⟨b, 5, none⟩ (.int .u32 (wd M 2 : Nat))).setCell ⟨b, 6, none⟩ (.int .u32 (wd M 3 : Nat))
theorem FB.set3 {W : World} {b kd : Nat} {fr rd : Int} {N : Nat} {v : Value} (h : FB W b kd fr rd N v) (M : Nat) : FB (W4 W b M) b kd fr rd M v := (set_get 6 _ (set_get 5 _ (set_get 4 _ (set_get 3 _ h)))).trans (by simp [fcs])
theorem FB.set7 {W : World} {b kd : Nat} {fr rd : Int} {N : Nat} {v : Value} (h : FB W b kd fr rd N v) (x : Value) : FB (W.setCell ⟨b, 7, none⟩ x) b kd fr rd N x := (set_get 7 _ h).trans (by simp [fcs])
def W8 (W : World) (b kd : Nat) (fr rd : Int) (N : Nat) (v : Value) : World := ((((((((W.setCell ⟨b, 0, none⟩ (.int .i64 (kd : Int))).setCell ⟨b, 1, none⟩ (.int .i64 fr)).setCell ⟨b, 2, none⟩ (.int .i64 rd)).setCell ⟨b, 3, none⟩ (.int .u32 (wd N 0 : Nat))).setCell ⟨b, 4, none⟩ (.int .u32 (wd N 1 : Nat))).setCell ⟨b, 5, none⟩ (.int .u32 (wd N 2 : Nat))).setCell ⟨b, 6, none⟩ (.int .u32 (wd N 3 : Nat)))).setCell ⟨b, 7, none⟩ v
theorem FB.set8 {W : World} {b kd : Nat} {fr rd : Int} {N : Nat} {v : Value} (h : FB W b kd fr rd N v) (kd' : Nat) (fr' rd' : Int) (N' : Nat) (v' : Value) : FB (W8 W b kd' fr' rd' N' v') b kd' fr' rd' N' v' := ((((h.set0 kd').set1 fr').set2 rd').set3 N').set7 v'
theorem Rdr.other {W : World} {p : Nat} {ad : Option Addr} {cap : Nat} {bs : List Nat} {i : Nat} (h : Rdr W p ad cap bs i) {b : Nat} (hb : p < b) (j : Nat) (v : Value) : Rdr (W.setCell ⟨b, j, none⟩ v) p ad cap bs i := by
 refine ⟨(Below.heap_setCell _ _ _ _ (Nat.ne_of_lt hb)).trans h.box, fun hne => ?_, h.le, h.byt, h.ln, h.cp⟩
 obtain ⟨x, off, h1, h2, h3⟩ := h.rd hne
 exact ⟨x, off, h1, h2, h3.carry (Below.heap_setCell _ _ _ _ (Nat.ne_of_lt (Nat.lt_trans h2 hb)))⟩
theorem Kb.other {p : Nat} {w W : World} (h : Kb p w W) {b : Nat} (hp : p < b) (hb : w.heap.size ≤ b) (j : Nat) (v : Value) : Kb p w (W.setCell ⟨b, j, none⟩ v) :=
 ⟨Below.setCell (p := ⟨b, j, none⟩) h.1 (Nat.le_of_lt hp) v, fun x h1 h2 => (Below.heap_setCell _ _ _ _ (Nat.ne_of_lt (Nat.lt_of_lt_of_le h2 hb))).trans (h.2 x h1 h2)⟩
structure SF (w : World) (p : Nat) (ad : Option Addr) (cap : Nat) (bs : List Nat) (i kd : Nat) (fr rd : Int) (N : Nat) (v : Value) (W : World) : Prop where
 rr : Rdr W p ad cap bs i
 kb : Kb p w W
 fb : FB W (w.heap.size + 1) kd fr rd N v
 f0 : FB W w.heap.size 0 0 0 0 (.slice none 0 0)
 pl : p < w.heap.size
section
variable {w W : World} {p : Nat} {ad : Option Addr} {cap : Nat} {bs : List Nat} {i kd : Nat} {fr rd : Int} {N : Nat} {v : Value}
theorem SF.sz (h : SF w p ad cap bs i kd fr rd N v W) : w.heap.size + 1 < W.heap.size := h.fb.lt
theorem SF.kbs {W' : World} {i' : Nat} (h : SF w p ad cap bs i kd fr rd N v W) (hr : Rdr W' p ad cap bs i') (hk : Kb p W W') : SF w p ad cap bs i' kd fr rd N v W' :=
 ⟨hr, h.kb.trans hk, h.fb.carry (hk.2 _ (by have := h.pl; omega) h.fb.lt), h.f0.carry (hk.2 _ (by have := h.pl; omega) h.f0.lt), h.pl⟩
theorem SF.below {W' : World} (h : SF w p ad cap bs i kd fr rd N v W) (hb : Below W.heap.size W W') : SF w p ad cap bs i kd fr rd N v W' := h.kbs (h.rr.carry hb) (Kb.below hb (by have := h.pl; have := h.sz; omega))
theorem SF.num (h : SF w p ad cap bs i kd fr rd N v W) (m : Nat) (h0 : 0 < m) (h7 : m ≤ 7) (hm : i + m ≤ bs.length) : Calls Tryz.prog 68 #[.pointer (some ⟨p, 0, none⟩), .int .i64 (m : Int)] W fun e W' => e = .returned (.int .i64 (nmW bs i m : Nat)) ∧ SF w p ad cap bs (i + m) kd fr rd N v W' :=
 (number_ok h.rr m h0 h7 hm).mono (by rintro e W' ⟨rfl, hr, hk⟩; exact ⟨rfl, h.kbs hr hk⟩)
theorem SF.numx (h : SF w p ad cap bs i kd fr rd N v W) (m : Nat) (hm : bs.length < i + m) : Calls Tryz.prog 68 #[.pointer (some ⟨p, 0, none⟩), .int .i64 (m : Int)] W fun e W' => e = .panicked (rfu 76) ∧ Kb p w W' :=
 (number_no h.rr m hm).mono (by rintro e W' ⟨rfl, hb⟩; exact ⟨rfl, (h.below hb).kb⟩)
theorem SF.s0 (h : SF w p ad cap bs i kd fr rd N v W) (x : Nat) : SF w p ad cap bs i x fr rd N v (W.setCell ⟨w.heap.size + 1, 0, none⟩ (.int .i64 (x : Int))) :=
 ⟨h.rr.other (by have := h.pl; omega) _ _, h.kb.other (by have := h.pl; omega) (Nat.le_succ _) _ _, h.fb.set0 x, h.f0.carry (Below.heap_setCell _ _ _ _ (Nat.ne_of_lt (Nat.lt_succ_self _))), h.pl⟩
theorem SF.s1 (h : SF w p ad cap bs i kd fr rd N v W) (x : Int) : SF w p ad cap bs i kd x rd N v (W.setCell ⟨w.heap.size + 1, 1, none⟩ (.int .i64 x)) :=
 ⟨h.rr.other (by have := h.pl; omega) _ _, h.kb.other (by have := h.pl; omega) (Nat.le_succ _) _ _, h.fb.set1 x, h.f0.carry (Below.heap_setCell _ _ _ _ (Nat.ne_of_lt (Nat.lt_succ_self _))), h.pl⟩
theorem SF.s2 (h : SF w p ad cap bs i kd fr rd N v W) (x : Int) : SF w p ad cap bs i kd fr x N v (W.setCell ⟨w.heap.size + 1, 2, none⟩ (.int .i64 x)) :=
 ⟨h.rr.other (by have := h.pl; omega) _ _, h.kb.other (by have := h.pl; omega) (Nat.le_succ _) _ _, h.fb.set2 x, h.f0.carry (Below.heap_setCell _ _ _ _ (Nat.ne_of_lt (Nat.lt_succ_self _))), h.pl⟩
theorem SF.s7 (h : SF w p ad cap bs i kd fr rd N v W) (x : Value) : SF w p ad cap bs i kd fr rd N x (W.setCell ⟨w.heap.size + 1, 7, none⟩ x) :=
 ⟨h.rr.other (by have := h.pl; omega) _ _, h.kb.other (by have := h.pl; omega) (Nat.le_succ _) _ _, h.fb.set7 x, h.f0.carry (Below.heap_setCell _ _ _ _ (Nat.ne_of_lt (Nat.lt_succ_self _))), h.pl⟩
theorem SF.s3 (h : SF w p ad cap bs i kd fr rd N v W) (M : Nat) : SF w p ad cap bs i kd fr rd M v (W4 W (w.heap.size + 1) M) := by
 have hp := h.pl
 have hp1 : p < w.heap.size + 1 := by omega
 refine ⟨(((h.rr.other hp1 _ _).other hp1 _ _).other hp1 _ _).other hp1 _ _, (((h.kb.other hp1 (Nat.le_succ _) _ _).other hp1 (Nat.le_succ _) _ _).other hp1 (Nat.le_succ _) _ _).other hp1 (Nat.le_succ _) _ _, h.fb.set3 M, h.f0.carry ?_, h.pl⟩
 unfold W4
 rw [Below.heap_setCell _ _ _ _ (by simp), Below.heap_setCell _ _ _ _ (by simp), Below.heap_setCell _ _ _ _ (by simp), Below.heap_setCell _ _ _ _ (by simp)]
theorem SF.facts (h : SF w p ad cap bs i kd fr rd N v W) : (W.cell? ⟨w.heap.size + 1, 0, none⟩ = some (.int .i64 (kd : Int)) ∧ W.cell? ⟨w.heap.size + 1, 1, none⟩ = some (.int .i64 fr) ∧ W.cell? ⟨w.heap.size + 1, 2, none⟩ = some (.int .i64 rd) ∧ W.cell? ⟨w.heap.size + 1, 3, none⟩ = some (.int .u32 (wd N 0 : Nat)) ∧ W.cell? ⟨w.heap.size + 1, 4, none⟩ = some (.int .u32 (wd N 1 : Nat)) ∧ W.cell? ⟨w.heap.size + 1, 5, none⟩ = some (.int .u32 (wd N 2 : Nat)) ∧ W.cell? ⟨w.heap.size + 1, 6, none⟩ = some (.int .u32 (wd N 3 : Nat)) ∧ W.cell? ⟨w.heap.size + 1, 7, none⟩ = some v) ∧ (W.frozen? ⟨w.heap.size + 1, 0, none⟩ = false ∧ W.frozen? ⟨w.heap.size + 1, 1, none⟩ = false ∧ W.frozen? ⟨w.heap.size + 1, 2, none⟩ = false ∧ W.frozen? ⟨w.heap.size + 1, 3, none⟩ = false ∧ W.frozen? ⟨w.heap.size + 1, 4, none⟩ = false ∧ W.frozen? ⟨w.heap.size + 1, 5, none⟩ = false ∧ W.frozen? ⟨w.heap.size + 1, 6, none⟩ = false ∧ W.frozen? ⟨w.heap.size + 1, 7, none⟩ = false) :=
 ⟨h.fb.cells, h.fb.thaw 0, h.fb.thaw 1, h.fb.thaw 2, h.fb.thaw 3, h.fb.thaw 4, h.fb.thaw 5, h.fb.thaw 6, h.fb.thaw 7⟩
end
def FdO (p : Nat) (ad : Option Addr) (cap : Nat) (bs : List Nat) (R : Except Int (FN × Nat)) (w : World) (e : Ending) (w' : World) : Prop :=
 match R with
 | .error er => e = .panicked (rfu er) ∧ Kb p w w'
 | .ok ((kd, fr, rd, N, l), j) => ∃ v, e = .returned (fv kd (fr : Int) (rd : Int) N v) ∧ w'.ownsRow w.heap.size 65 3 v l.length (fl l) ∧ Rdr w' p ad cap bs j ∧ Kb p w w'
theorem fdo_err {p : Nat} {ad : Option Addr} {cap : Nat} {bs : List Nat} {R : Except Int (FN × Nat)} {w w' : World} {er : Int} (h : R = .error er) (hk : Kb p w w') : FdO p ad cap bs R w (.panicked (rfu er)) w' := by
 subst h
 exact ⟨rfl, hk⟩
theorem retF {f : Func} {q : Tmp} {R : Ending → World → Prop} {a : Act} {w : World} {b kd : Nat} {fr rd : Int} {N : Nat} {v : Value} (hres : f.results = #[.cell q 106]) (hp : a.tmps.getD q undef = .pointer (some ⟨b, 0, none⟩)) (hd : a.defers = []) (h : FB w b kd fr rd N v) (hR : R (.returned (fv kd fr rd N v)) w) : bodyPost Tryz.prog f R .ret a w :=
 bodyPost_ret (results_cell_row hres a.tmps w b _ _ (0, 0) _ hp h Tryz.underlying106 rfl (by kernel_rfl)) hd hR
theorem sf_start {w : World} {p : Nat} {ad : Option Addr} {cap : Nat} {bs : List Nat} (h : Rdr w p ad cap bs 0) : SF w p ad cap bs 0 0 0 0 0 (.slice none 0 0) ((w.alloc (.cells #[.int .i64 0, .int .i64 0, .int .i64 0, .int .u32 0, .int .u32 0, .int .u32 0, .int .u32 0, .slice none 0 0] 106)).alloc (.cells #[.int .i64 0, .int .i64 0, .int .i64 0, .int .u32 0, .int .u32 0, .int .u32 0, .int .u32 0, .slice none 0 0] 106)) := by
 have hb := ((Below.refl w.heap.size w).alloc (Nat.le_refl _) (.cells #[.int .i64 0, .int .i64 0, .int .i64 0, .int .u32 0, .int .u32 0, .int .u32 0, .int .u32 0, .slice none 0 0] 106)).alloc (by simp) (.cells #[.int .i64 0, .int .i64 0, .int .i64 0, .int .u32 0, .int .u32 0, .int .u32 0, .int .u32 0, .slice none 0 0] 106)
 have e : fcs 0 0 0 0 (.slice none 0 0) = #[.int .i64 0, .int .i64 0, .int .i64 0, .int .u32 0, .int .u32 0, .int .u32 0, .int .u32 0, .slice none 0 0] := by simp [fcs, wd]
 refine ⟨h.carry hb, Kb.below hb (Nat.le_of_lt h.lt), ?_, ?_, h.lt⟩
 · unfold FB
   rw [e]
   exact zna (by simp)
 · unfold FB
   rw [e]
   exact zoa (zna rfl)
theorem wghm {w : World} {p : Nat} {ad : Option Addr} {cap : Nat} {bs : List Nat} (hM : nmW bs 0 2 = 25971) (hl : 2 ≤ bs.length) : ∀ W, SF w p ad cap bs 0 0 0 0 0 (.slice none 0 0) W → Calls Tryz.prog 68 #[.pointer (some ⟨p, 0, none⟩), .int .i64 2] W fun e W' => e = .returned (.int .i64 (25971 : Nat)) ∧ SF w p ad cap bs 2 0 0 0 0 (.slice none 0 0) W' := fun W h => by
 have := SF.num h 2 (by decide) (by decide) (by omega)
 rwa [hM] at this
theorem wghk {w : World} {p : Nat} {ad : Option Addr} {cap : Nat} {bs : List Nat} {K : Nat} (hK : nmW bs 2 1 = K) (hl : 3 ≤ bs.length) : ∀ W, SF w p ad cap bs 2 0 0 0 0 (.slice none 0 0) W → Calls Tryz.prog 68 #[.pointer (some ⟨p, 0, none⟩), .int .i64 1] W fun e W' => e = .returned (.int .i64 (K : Nat)) ∧ SF w p ad cap bs 3 0 0 0 0 (.slice none 0 0) W' := fun W h => by
 have := SF.num h 1 (by decide) (by decide) (by omega)
 rwa [hK] at this
theorem wghs {w : World} {p : Nat} {ad : Option Addr} {cap : Nat} {bs : List Nat} {K n : Nat} (hSz : nmW bs 3 1 = n) (hl : 4 ≤ bs.length) : ∀ W, SF w p ad cap bs 3 K 0 0 0 (.slice none 0 0) W → Calls Tryz.prog 68 #[.pointer (some ⟨p, 0, none⟩), .int .i64 1] W fun e W' => e = .returned (.int .i64 (n : Nat)) ∧ SF w p ad cap bs 4 K 0 0 0 (.slice none 0 0) W' := fun W h => by
 have := SF.num h 1 (by decide) (by decide) (by omega)
 rwa [hSz] at this
theorem wghf {w : World} {p : Nat} {ad : Option Addr} {cap : Nat} {bs : List Nat} {K G : Nat} (hG : nmW bs 4 1 = G) (hl : 5 ≤ bs.length) : ∀ W, SF w p ad cap bs 4 K 0 0 0 (.slice none 0 0) W → Calls Tryz.prog 68 #[.pointer (some ⟨p, 0, none⟩), .int .i64 1] W fun e W' => e = .returned (.int .i64 (G : Nat)) ∧ SF w p ad cap bs 5 K 0 0 0 (.slice none 0 0) W' := fun W h => by
 have := SF.num h 1 (by decide) (by decide) (by omega)
 rwa [hG] at this
theorem wghq {w : World} {p : Nat} {ad : Option Addr} {cap : Nat} {bs : List Nat} {K G Rd : Nat} (hRd : nmW bs 5 5 = Rd) (hl : 10 ≤ bs.length) : ∀ W, SF w p ad cap bs 5 K (G : Int) 0 0 (.slice none 0 0) W → Calls Tryz.prog 68 #[.pointer (some ⟨p, 0, none⟩), .int .i64 5] W fun e W' => e = .returned (.int .i64 (Rd : Nat)) ∧ SF w p ad cap bs 10 K (G : Int) 0 0 (.slice none 0 0) W' := fun W h => by
 have := SF.num h 5 (by decide) (by decide) (by omega)
 rwa [hRd] at this
theorem fd1 {w : World} {p : Nat} {ad : Option Addr} {cap : Nat} {bs : List Nat} (h : Rdr w p ad cap bs 0) (n : Nat) (h1 : bs.length < 2) : Calls Tryz.prog 37 #[.pointer (some ⟨p, 0, none⟩), .int .i64 (n : Int)] w (FdO p ad cap bs (.error 76) w) := by
 have hS0 := sf_start h
 have hx : ∀ W, SF w p ad cap bs 0 0 0 0 0 (.slice none 0 0) W → Calls Tryz.prog 68 #[.pointer (some ⟨p, 0, none⟩), .int .i64 2] W fun e W' => e = .panicked (rfu 76) ∧ Kb p w W' := fun W h => SF.numx h 2 (by omega)
 obtain ⟨⟨c0, c1, c2, c3, c4, c5, c6, c7⟩, z0, z1, z2, z3, z4, z5, z6, z7⟩ := hS0.facts
 go_enter Tryz.func37, Tryz.ntmps37
 go_wp2_with (first | (go_at_call 68; (with_reducible refine (hx _ hS0).mono ?_); rintro e ux ⟨rfl, hkx⟩))
 exact ⟨rfl, fdo_err rfl hkx⟩
theorem fd2 {w : World} {p : Nat} {ad : Option Addr} {cap : Nat} {bs : List Nat} (h : Rdr w p ad cap bs 0) (n : Nat) (h1 : 2 ≤ bs.length) (M : Nat) (hM : nmW bs 0 2 = M) (hM2 : M ≠ 25971) : Calls Tryz.prog 37 #[.pointer (some ⟨p, 0, none⟩), .int .i64 (n : Int)] w (FdO p ad cap bs (.error 70) w) := by
 have hS0 := sf_start h
 have hm : ∀ W, SF w p ad cap bs 0 0 0 0 0 (.slice none 0 0) W → Calls Tryz.prog 68 #[.pointer (some ⟨p, 0, none⟩), .int .i64 2] W fun e W' => e = .returned (.int .i64 (M : Nat)) ∧ SF w p ad cap bs 2 0 0 0 0 (.slice none 0 0) W' := fun W h => by
  have := SF.num h 2 (by decide) (by decide) (by omega)
  rwa [hM] at this
 have hr70 := refuse_yes 70
 have hMi : ((M : Int) != 25971) = true := by simp; omega
 obtain ⟨⟨c0, c1, c2, c3, c4, c5, c6, c7⟩, z0, z1, z2, z3, z4, z5, z6, z7⟩ := hS0.facts
 go_enter Tryz.func37, Tryz.ntmps37
 go_wp2_with (first | (go_at_call 68; (with_reducible refine (hm _ hS0).mono ?_); rintro e u1 ⟨rfl, hS1⟩; clear c0 c1 c2 c3 c4 c5 c6 c7 z0 z1 z2 z3 z4 z5 z6 z7; obtain ⟨⟨c0, c1, c2, c3, c4, c5, c6, c7⟩, z0, z1, z2, z3, z4, z5, z6, z7⟩ := hS1.facts) | (go_at_call 67; (with_reducible refine (hr70 _).mono ?_); rintro e ur ⟨rfl, hu⟩; rw [hu]; clear hu ur))
 exact ⟨rfl, fdo_err rfl hS1.kb⟩
theorem fd3 {w : World} {p : Nat} {ad : Option Addr} {cap : Nat} {bs : List Nat} (h : Rdr w p ad cap bs 0) (n : Nat) (h1 : 2 ≤ bs.length) (hM : nmW bs 0 2 = 25971) (h2 : bs.length < 3) : Calls Tryz.prog 37 #[.pointer (some ⟨p, 0, none⟩), .int .i64 (n : Int)] w (FdO p ad cap bs (.error 76) w) := by
 have hS0 := sf_start h
 have hm := wghm (w := w) (p := p) (ad := ad) (cap := cap) hM (by omega)
 have hr70 := zrn 70
 have hx : ∀ W, SF w p ad cap bs 2 0 0 0 0 (.slice none 0 0) W → Calls Tryz.prog 68 #[.pointer (some ⟨p, 0, none⟩), .int .i64 1] W fun e W' => e = .panicked (rfu 76) ∧ Kb p w W' := fun W h => SF.numx h 1 (by omega)
 obtain ⟨⟨c0, c1, c2, c3, c4, c5, c6, c7⟩, z0, z1, z2, z3, z4, z5, z6, z7⟩ := hS0.facts
 go_enter Tryz.func37, Tryz.ntmps37
 go_wp2_with (first | (go_at_call 68; (with_reducible refine (hm _ hS0).mono ?_); rintro e u1 ⟨rfl, hS1⟩; clear c0 c1 c2 c3 c4 c5 c6 c7 z0 z1 z2 z3 z4 z5 z6 z7; obtain ⟨⟨c0, c1, c2, c3, c4, c5, c6, c7⟩, z0, z1, z2, z3, z4, z5, z6, z7⟩ := hS1.facts) | (go_at_call 67; (with_reducible refine (hr70 _).mono ?_); rintro e ur ⟨rfl, hu⟩; rw [hu]; clear hu ur) | (go_at_call 68; (with_reducible refine (hx _ hS1).mono ?_); rintro e ux ⟨rfl, hkx⟩))
 exact ⟨rfl, fdo_err rfl hkx⟩
theorem fd4a {w : World} {p : Nat} {ad : Option Addr} {cap : Nat} {bs : List Nat} (h : Rdr w p ad cap bs 0) (n : Nat) (h1 : 2 ≤ bs.length) (hM : nmW bs 0 2 = 25971) (h2 : 3 ≤ bs.length) (K : Nat) (hK : nmW bs 2 1 = K) (hk1 : K < 1) : Calls Tryz.prog 37 #[.pointer (some ⟨p, 0, none⟩), .int .i64 (n : Int)] w (FdO p ad cap bs (.error 71) w) := by
 have hS0 := sf_start h
 have hm := wghm (w := w) (p := p) (ad := ad) (cap := cap) hM (by omega)
 have hr70 := zrn 70
 have hk := wghk (w := w) (p := p) (ad := ad) (cap := cap) hK (by omega)
 have hr71 := refuse_yes 71
 have q1 : decide ((K : Int) < 1) = true := decide_eq_true (by omega)
 obtain ⟨⟨c0, c1, c2, c3, c4, c5, c6, c7⟩, z0, z1, z2, z3, z4, z5, z6, z7⟩ := hS0.facts
 go_enter Tryz.func37, Tryz.ntmps37
 go_wp2_with (first | (go_at_call 68; (with_reducible refine (hm _ hS0).mono ?_); rintro e u1 ⟨rfl, hS1⟩; clear c0 c1 c2 c3 c4 c5 c6 c7 z0 z1 z2 z3 z4 z5 z6 z7; obtain ⟨⟨c0, c1, c2, c3, c4, c5, c6, c7⟩, z0, z1, z2, z3, z4, z5, z6, z7⟩ := hS1.facts) | (go_at_call 67; (with_reducible refine (hr70 _).mono ?_); rintro e ur ⟨rfl, hu⟩; rw [hu]; clear hu ur) | (go_at_call 68; (with_reducible refine (hk _ hS1).mono ?_); rintro e u2 ⟨rfl, hS2⟩; clear c0 c1 c2 c3 c4 c5 c6 c7 z0 z1 z2 z3 z4 z5 z6 z7; obtain ⟨⟨c0, c1, c2, c3, c4, c5, c6, c7⟩, z0, z1, z2, z3, z4, z5, z6, z7⟩ := hS2.facts; have hS3 := hS2.s0 K) | (go_at_call 67; (with_reducible refine (hr71 _).mono ?_); rintro e ur ⟨rfl, hu⟩; rw [hu]; clear hu ur))
 exact ⟨rfl, fdo_err rfl hS3.kb⟩
theorem fd4b {w : World} {p : Nat} {ad : Option Addr} {cap : Nat} {bs : List Nat} (h : Rdr w p ad cap bs 0) (n : Nat) (h1 : 2 ≤ bs.length) (hM : nmW bs 0 2 = 25971) (h2 : 3 ≤ bs.length) (K : Nat) (hK : nmW bs 2 1 = K) (hk1 : 3 < K) : Calls Tryz.prog 37 #[.pointer (some ⟨p, 0, none⟩), .int .i64 (n : Int)] w (FdO p ad cap bs (.error 71) w) := by
 have hS0 := sf_start h
 have hm := wghm (w := w) (p := p) (ad := ad) (cap := cap) hM (by omega)
 have hr70 := zrn 70
 have hk := wghk (w := w) (p := p) (ad := ad) (cap := cap) hK (by omega)
 have hr71 := refuse_yes 71
 have q0 : decide ((K : Int) < 1) = false := decide_eq_false (by omega)
 have q1 : decide ((3 : Int) < (K : Int)) = true := decide_eq_true (by omega)
 obtain ⟨⟨c0, c1, c2, c3, c4, c5, c6, c7⟩, z0, z1, z2, z3, z4, z5, z6, z7⟩ := hS0.facts
 go_enter Tryz.func37, Tryz.ntmps37
 go_wp2_with (first | (go_at_call 68; (with_reducible refine (hm _ hS0).mono ?_); rintro e u1 ⟨rfl, hS1⟩; clear c0 c1 c2 c3 c4 c5 c6 c7 z0 z1 z2 z3 z4 z5 z6 z7; obtain ⟨⟨c0, c1, c2, c3, c4, c5, c6, c7⟩, z0, z1, z2, z3, z4, z5, z6, z7⟩ := hS1.facts) | (go_at_call 67; (with_reducible refine (hr70 _).mono ?_); rintro e ur ⟨rfl, hu⟩; rw [hu]; clear hu ur) | (go_at_call 68; (with_reducible refine (hk _ hS1).mono ?_); rintro e u2 ⟨rfl, hS2⟩; clear c0 c1 c2 c3 c4 c5 c6 c7 z0 z1 z2 z3 z4 z5 z6 z7; obtain ⟨⟨c0, c1, c2, c3, c4, c5, c6, c7⟩, z0, z1, z2, z3, z4, z5, z6, z7⟩ := hS2.facts; have hS3 := hS2.s0 K) | (go_at_call 67; (with_reducible refine (hr71 _).mono ?_); rintro e ur ⟨rfl, hu⟩; rw [hu]; clear hu ur))
 exact ⟨rfl, fdo_err rfl hS3.kb⟩
theorem fd5 {w : World} {p : Nat} {ad : Option Addr} {cap : Nat} {bs : List Nat} (h : Rdr w p ad cap bs 0) (n : Nat) (h1 : 2 ≤ bs.length) (hM : nmW bs 0 2 = 25971) (h2 : 3 ≤ bs.length) (K : Nat) (hK : nmW bs 2 1 = K) (hk1 : 1 ≤ K) (hk3 : K ≤ 3) (h3 : bs.length < 4) : Calls Tryz.prog 37 #[.pointer (some ⟨p, 0, none⟩), .int .i64 (n : Int)] w (FdO p ad cap bs (.error 76) w) := by
 have hS0 := sf_start h
 have hm := wghm (w := w) (p := p) (ad := ad) (cap := cap) hM (by omega)
 have hr70 := zrn 70
 have hk := wghk (w := w) (p := p) (ad := ad) (cap := cap) hK (by omega)
 have hr71 := zrn 71
 have q0 : decide ((K : Int) < 1) = false := decide_eq_false (by omega)
 have q1 : decide ((3 : Int) < (K : Int)) = false := decide_eq_false (by omega)
 have hx : ∀ W, SF w p ad cap bs 3 K 0 0 0 (.slice none 0 0) W → Calls Tryz.prog 68 #[.pointer (some ⟨p, 0, none⟩), .int .i64 1] W fun e W' => e = .panicked (rfu 76) ∧ Kb p w W' := fun W h => SF.numx h 1 (by omega)
 obtain ⟨⟨c0, c1, c2, c3, c4, c5, c6, c7⟩, z0, z1, z2, z3, z4, z5, z6, z7⟩ := hS0.facts
 go_enter Tryz.func37, Tryz.ntmps37
 go_wp2_with (first | (go_at_call 68; (with_reducible refine (hm _ hS0).mono ?_); rintro e u1 ⟨rfl, hS1⟩; clear c0 c1 c2 c3 c4 c5 c6 c7 z0 z1 z2 z3 z4 z5 z6 z7; obtain ⟨⟨c0, c1, c2, c3, c4, c5, c6, c7⟩, z0, z1, z2, z3, z4, z5, z6, z7⟩ := hS1.facts) | (go_at_call 67; (with_reducible refine (hr70 _).mono ?_); rintro e ur ⟨rfl, hu⟩; rw [hu]; clear hu ur) | (go_at_call 68; (with_reducible refine (hk _ hS1).mono ?_); rintro e u2 ⟨rfl, hS2⟩; clear c0 c1 c2 c3 c4 c5 c6 c7 z0 z1 z2 z3 z4 z5 z6 z7; obtain ⟨⟨c0, c1, c2, c3, c4, c5, c6, c7⟩, z0, z1, z2, z3, z4, z5, z6, z7⟩ := hS2.facts; have hS3 := hS2.s0 K) | (go_at_call 67; (with_reducible refine (hr71 _).mono ?_); rintro e ur ⟨rfl, hu⟩; rw [hu]; clear hu ur) | (go_at_call 68; (with_reducible refine (hx _ hS3).mono ?_); rintro e ux ⟨rfl, hkx⟩))
 exact ⟨rfl, fdo_err rfl hkx⟩
theorem fd6 {w : World} {p : Nat} {ad : Option Addr} {cap : Nat} {bs : List Nat} (h : Rdr w p ad cap bs 0) (n : Nat) (h1 : 2 ≤ bs.length) (hM : nmW bs 0 2 = 25971) (h2 : 3 ≤ bs.length) (K : Nat) (hK : nmW bs 2 1 = K) (hk1 : 1 ≤ K) (hk3 : K ≤ 3) (h3 : 4 ≤ bs.length) (S : Nat) (hSz : nmW bs 3 1 = S) (hs1 : S ≠ n) : Calls Tryz.prog 37 #[.pointer (some ⟨p, 0, none⟩), .int .i64 (n : Int)] w (FdO p ad cap bs (.error 102) w) := by
 have hS0 := sf_start h
 have hm := wghm (w := w) (p := p) (ad := ad) (cap := cap) hM (by omega)
 have hr70 := zrn 70
 have hk := wghk (w := w) (p := p) (ad := ad) (cap := cap) hK (by omega)
 have hr71 := zrn 71
 have q0 : decide ((K : Int) < 1) = false := decide_eq_false (by omega)
 have q1 : decide ((3 : Int) < (K : Int)) = false := decide_eq_false (by omega)
 have hs : ∀ W, SF w p ad cap bs 3 K 0 0 0 (.slice none 0 0) W → Calls Tryz.prog 68 #[.pointer (some ⟨p, 0, none⟩), .int .i64 1] W fun e W' => e = .returned (.int .i64 (S : Nat)) ∧ SF w p ad cap bs 4 K 0 0 0 (.slice none 0 0) W' := fun W h => by
  have := SF.num h 1 (by decide) (by decide) (by omega)
  rwa [hSz] at this
 have hr102 := refuse_yes 102
 have q2 : ((S : Int) != (n : Int)) = true := by simp; omega
 obtain ⟨⟨c0, c1, c2, c3, c4, c5, c6, c7⟩, z0, z1, z2, z3, z4, z5, z6, z7⟩ := hS0.facts
 go_enter Tryz.func37, Tryz.ntmps37
 go_wp2_with (first | (go_at_call 68; (with_reducible refine (hm _ hS0).mono ?_); rintro e u1 ⟨rfl, hS1⟩; clear c0 c1 c2 c3 c4 c5 c6 c7 z0 z1 z2 z3 z4 z5 z6 z7; obtain ⟨⟨c0, c1, c2, c3, c4, c5, c6, c7⟩, z0, z1, z2, z3, z4, z5, z6, z7⟩ := hS1.facts) | (go_at_call 67; (with_reducible refine (hr70 _).mono ?_); rintro e ur ⟨rfl, hu⟩; rw [hu]; clear hu ur) | (go_at_call 68; (with_reducible refine (hk _ hS1).mono ?_); rintro e u2 ⟨rfl, hS2⟩; clear c0 c1 c2 c3 c4 c5 c6 c7 z0 z1 z2 z3 z4 z5 z6 z7; obtain ⟨⟨c0, c1, c2, c3, c4, c5, c6, c7⟩, z0, z1, z2, z3, z4, z5, z6, z7⟩ := hS2.facts; have hS3 := hS2.s0 K) | (go_at_call 67; (with_reducible refine (hr71 _).mono ?_); rintro e ur ⟨rfl, hu⟩; rw [hu]; clear hu ur) | (go_at_call 68; (with_reducible refine (hs _ hS3).mono ?_); rintro e u4 ⟨rfl, hS4⟩; clear c0 c1 c2 c3 c4 c5 c6 c7 z0 z1 z2 z3 z4 z5 z6 z7; obtain ⟨⟨c0, c1, c2, c3, c4, c5, c6, c7⟩, z0, z1, z2, z3, z4, z5, z6, z7⟩ := hS4.facts) | (go_at_call 67; (with_reducible refine (hr102 _).mono ?_); rintro e ur ⟨rfl, hu⟩; rw [hu]; clear hu ur))
 exact ⟨rfl, fdo_err rfl hS4.kb⟩
theorem fd7 {w : World} {p : Nat} {ad : Option Addr} {cap : Nat} {bs : List Nat} (h : Rdr w p ad cap bs 0) (n : Nat) (h1 : 2 ≤ bs.length) (hM : nmW bs 0 2 = 25971) (h2 : 3 ≤ bs.length) (K : Nat) (hK : nmW bs 2 1 = K) (hk1 : 1 ≤ K) (hk3 : K ≤ 3) (h3 : 4 ≤ bs.length) (hSz : nmW bs 3 1 = n) (h4 : bs.length < 5) : Calls Tryz.prog 37 #[.pointer (some ⟨p, 0, none⟩), .int .i64 (n : Int)] w (FdO p ad cap bs (.error 76) w) := by
 have hS0 := sf_start h
 have hm := wghm (w := w) (p := p) (ad := ad) (cap := cap) hM (by omega)
 have hr70 := zrn 70
 have hk := wghk (w := w) (p := p) (ad := ad) (cap := cap) hK (by omega)
 have hr71 := zrn 71
 have q0 : decide ((K : Int) < 1) = false := decide_eq_false (by omega)
 have q1 : decide ((3 : Int) < (K : Int)) = false := decide_eq_false (by omega)
 have hs := wghs (w := w) (p := p) (ad := ad) (cap := cap) (K := K) hSz (by omega)
 have hr102 := zrn 102
 have hx : ∀ W, SF w p ad cap bs 4 K 0 0 0 (.slice none 0 0) W → Calls Tryz.prog 68 #[.pointer (some ⟨p, 0, none⟩), .int .i64 1] W fun e W' => e = .panicked (rfu 76) ∧ Kb p w W' := fun W h => SF.numx h 1 (by omega)
 obtain ⟨⟨c0, c1, c2, c3, c4, c5, c6, c7⟩, z0, z1, z2, z3, z4, z5, z6, z7⟩ := hS0.facts
 go_enter Tryz.func37, Tryz.ntmps37
 go_wp2_with (first | (go_at_call 68; (with_reducible refine (hm _ hS0).mono ?_); rintro e u1 ⟨rfl, hS1⟩; clear c0 c1 c2 c3 c4 c5 c6 c7 z0 z1 z2 z3 z4 z5 z6 z7; obtain ⟨⟨c0, c1, c2, c3, c4, c5, c6, c7⟩, z0, z1, z2, z3, z4, z5, z6, z7⟩ := hS1.facts) | (go_at_call 67; (with_reducible refine (hr70 _).mono ?_); rintro e ur ⟨rfl, hu⟩; rw [hu]; clear hu ur) | (go_at_call 68; (with_reducible refine (hk _ hS1).mono ?_); rintro e u2 ⟨rfl, hS2⟩; clear c0 c1 c2 c3 c4 c5 c6 c7 z0 z1 z2 z3 z4 z5 z6 z7; obtain ⟨⟨c0, c1, c2, c3, c4, c5, c6, c7⟩, z0, z1, z2, z3, z4, z5, z6, z7⟩ := hS2.facts; have hS3 := hS2.s0 K) | (go_at_call 67; (with_reducible refine (hr71 _).mono ?_); rintro e ur ⟨rfl, hu⟩; rw [hu]; clear hu ur) | (go_at_call 68; (with_reducible refine (hs _ hS3).mono ?_); rintro e u4 ⟨rfl, hS4⟩; clear c0 c1 c2 c3 c4 c5 c6 c7 z0 z1 z2 z3 z4 z5 z6 z7; obtain ⟨⟨c0, c1, c2, c3, c4, c5, c6, c7⟩, z0, z1, z2, z3, z4, z5, z6, z7⟩ := hS4.facts) | (go_at_call 67; (with_reducible refine (hr102 _).mono ?_); rintro e ur ⟨rfl, hu⟩; rw [hu]; clear hu ur) | (go_at_call 68; (with_reducible refine (hx _ hS4).mono ?_); rintro e ux ⟨rfl, hkx⟩))
 exact ⟨rfl, fdo_err rfl hkx⟩
theorem fd8 {w : World} {p : Nat} {ad : Option Addr} {cap : Nat} {bs : List Nat} (h : Rdr w p ad cap bs 0) (n : Nat) (h1 : 2 ≤ bs.length) (hM : nmW bs 0 2 = 25971) (h2 : 3 ≤ bs.length) (K : Nat) (hK : nmW bs 2 1 = K) (hk1 : 1 ≤ K) (hk3 : K ≤ 3) (h3 : 4 ≤ bs.length) (hSz : nmW bs 3 1 = n) (h4 : 5 ≤ bs.length) (G : Nat) (hG : nmW bs 4 1 = G) (hg1 : n ≤ G) : Calls Tryz.prog 37 #[.pointer (some ⟨p, 0, none⟩), .int .i64 (n : Int)] w (FdO p ad cap bs (.error 72) w) := by
 have hS0 := sf_start h
 have hm := wghm (w := w) (p := p) (ad := ad) (cap := cap) hM (by omega)
 have hr70 := zrn 70
 have hk := wghk (w := w) (p := p) (ad := ad) (cap := cap) hK (by omega)
 have hr71 := zrn 71
 have q0 : decide ((K : Int) < 1) = false := decide_eq_false (by omega)
 have q1 : decide ((3 : Int) < (K : Int)) = false := decide_eq_false (by omega)
 have hs := wghs (w := w) (p := p) (ad := ad) (cap := cap) (K := K) hSz (by omega)
 have hr102 := zrn 102
 have hf := wghf (w := w) (p := p) (ad := ad) (cap := cap) (K := K) hG (by omega)
 have hr72 := refuse_yes 72
 have q3 : decide (n ≤ G) = true := decide_eq_true (by omega)
 obtain ⟨⟨c0, c1, c2, c3, c4, c5, c6, c7⟩, z0, z1, z2, z3, z4, z5, z6, z7⟩ := hS0.facts
 go_enter Tryz.func37, Tryz.ntmps37
 go_wp2_with (first | (go_at_call 68; (with_reducible refine (hm _ hS0).mono ?_); rintro e u1 ⟨rfl, hS1⟩; clear c0 c1 c2 c3 c4 c5 c6 c7 z0 z1 z2 z3 z4 z5 z6 z7; obtain ⟨⟨c0, c1, c2, c3, c4, c5, c6, c7⟩, z0, z1, z2, z3, z4, z5, z6, z7⟩ := hS1.facts) | (go_at_call 67; (with_reducible refine (hr70 _).mono ?_); rintro e ur ⟨rfl, hu⟩; rw [hu]; clear hu ur) | (go_at_call 68; (with_reducible refine (hk _ hS1).mono ?_); rintro e u2 ⟨rfl, hS2⟩; clear c0 c1 c2 c3 c4 c5 c6 c7 z0 z1 z2 z3 z4 z5 z6 z7; obtain ⟨⟨c0, c1, c2, c3, c4, c5, c6, c7⟩, z0, z1, z2, z3, z4, z5, z6, z7⟩ := hS2.facts; have hS3 := hS2.s0 K) | (go_at_call 67; (with_reducible refine (hr71 _).mono ?_); rintro e ur ⟨rfl, hu⟩; rw [hu]; clear hu ur) | (go_at_call 68; (with_reducible refine (hs _ hS3).mono ?_); rintro e u4 ⟨rfl, hS4⟩; clear c0 c1 c2 c3 c4 c5 c6 c7 z0 z1 z2 z3 z4 z5 z6 z7; obtain ⟨⟨c0, c1, c2, c3, c4, c5, c6, c7⟩, z0, z1, z2, z3, z4, z5, z6, z7⟩ := hS4.facts) | (go_at_call 67; (with_reducible refine (hr102 _).mono ?_); rintro e ur ⟨rfl, hu⟩; rw [hu]; clear hu ur) | (go_at_call 68; (with_reducible refine (hf _ hS4).mono ?_); rintro e u5 ⟨rfl, hS5⟩; clear c0 c1 c2 c3 c4 c5 c6 c7 z0 z1 z2 z3 z4 z5 z6 z7; obtain ⟨⟨c0, c1, c2, c3, c4, c5, c6, c7⟩, z0, z1, z2, z3, z4, z5, z6, z7⟩ := hS5.facts; have hS6 := hS5.s1 (G : Int)) | (go_at_call 67; (with_reducible refine (hr72 _).mono ?_); rintro e ur ⟨rfl, hu⟩; rw [hu]; clear hu ur))
 exact ⟨rfl, fdo_err rfl hS6.kb⟩
theorem SF.newsx {w W : World} {p : Nat} {ad : Option Addr} {cap : Nat} {bs : List Nat} {i kd : Nat} {fr rd : Int} {N : Nat} {v : Value} (h : SF w p ad cap bs i kd fr rd N v W) (n : Nat) (hn : n ≤ 100) (er : Int) (hR : rdW n bs i = .error er) : Calls Tryz.prog 76 #[.pointer (some ⟨p, 0, none⟩), .int .i64 (n : Int)] W fun e W' => e = .panicked (rfu er) ∧ Kb p w W' :=
 (news_any h.rr n hn).mono (by
  intro e W' q
  rw [hR] at q
  exact ⟨q.1, h.kb.trans q.2⟩)
theorem SF.newso {w W : World} {p : Nat} {ad : Option Addr} {cap : Nat} {bs : List Nat} {i kd : Nat} {fr rd : Int} {N : Nat} {v : Value} (h : SF w p ad cap bs i kd fr rd N v W) (n : Nat) (hn : n ≤ 100) (l : List (Int × Int × Int)) (j : Nat) (hR : rdW n bs i = .ok (l, j)) : Calls Tryz.prog 76 #[.pointer (some ⟨p, 0, none⟩), .int .i64 (n : Int)] W fun e W' => ∃ a2 c2, e = .returned (.slice a2 l.length c2) ∧ W'.ownsRow (w.heap.size + 2) 65 3 (.slice a2 l.length c2) l.length (fl l) ∧ SF w p ad cap bs j kd fr rd N v W' :=
 (news_any h.rr n hn).mono (by
  intro e W' q
  rw [hR] at q
  obtain ⟨x, h1, h2, h3, h4⟩ := q
  obtain ⟨a2, c2, rfl⟩ : ∃ a2 c2, x = .slice a2 l.length c2 := by
   rcases own_form h2 with ⟨e1, e2⟩ | ⟨g, c, e1, _⟩
   · exact ⟨none, 0, by rw [e1, e2]⟩
   · exact ⟨_, _, e1⟩
  exact ⟨a2, c2, h1, ownsRow_base h2 (by have := h.sz; omega), h.kbs h3 h4⟩)
theorem own_set8 {W : World} {b b' kd : Nat} {fr rd : Int} {N : Nat} {v x : Value} {e : TypeId} {size n : Nat} {xs : List Value} (h : W.ownsRow (b + 2) e size x n xs) (hb : b' ≤ b + 1) : (W8 (W.setCell ⟨b', 7, none⟩ x) b kd fr rd N v).ownsRow (b + 2) e size x n xs := by
 have k1 : ∀ g, x.ownBlock = some g → g ≠ b' := fun g hg => by have := own_block h g hg; omega
 have k2 : ∀ g, x.ownBlock = some g → g ≠ b := fun g hg => by have := own_block h g hg; omega
 unfold W8
 exact ownsRow_set (ownsRow_set (ownsRow_set (ownsRow_set (ownsRow_set (ownsRow_set (ownsRow_set (ownsRow_set (ownsRow_set h k1 _) k2 _) k2 _) k2 _) k2 _) k2 _) k2 _) k2 _) k2 _
theorem SF.end8 {w W : World} {p : Nat} {ad : Option Addr} {cap : Nat} {bs : List Nat} {i kd fr rd : Nat} {N : Nat} {x : Value} {l : List (Int × Int × Int)} (h : SF w p ad cap bs i kd fr rd N (.slice none 0 0) W) (ho : W.ownsRow (w.heap.size + 2) 65 3 x l.length (fl l)) : FB (W8 (W.setCell ⟨w.heap.size + 1, 7, none⟩ x) w.heap.size kd fr rd N x) w.heap.size kd fr rd N x ∧ FdO p ad cap bs (.ok ((kd, fr, rd, N, l), i)) w (.returned (fv kd fr rd N x)) (W8 (W.setCell ⟨w.heap.size + 1, 7, none⟩ x) w.heap.size kd fr rd N x) := by
 have h7 := h.s7 x
 have hp := h.pl
 refine ⟨h7.f0.set8 _ _ _ _ _, x, rfl, ownsRow_base (own_set8 ho (Nat.le_refl _)) (by omega), ?_, ?_⟩
 · unfold W8
   exact (((((((h7.rr.other hp _ _).other hp _ _).other hp _ _).other hp _ _).other hp _ _).other hp _ _).other hp _ _).other hp _ _
 · unfold W8
   exact (((((((h7.kb.other hp (Nat.le_refl _) _ _).other hp (Nat.le_refl _) _ _).other hp (Nat.le_refl _) _ _).other hp (Nat.le_refl _) _ _).other hp (Nat.le_refl _) _ _).other hp (Nat.le_refl _) _ _).other hp (Nat.le_refl _) _ _).other hp (Nat.le_refl _) _ _
theorem fd9x {w : World} {p : Nat} {ad : Option Addr} {cap : Nat} {bs : List Nat} (h : Rdr w p ad cap bs 0) (n : Nat) (h1 : 2 ≤ bs.length) (hM : nmW bs 0 2 = 25971) (h2 : 3 ≤ bs.length) (K : Nat) (hK : nmW bs 2 1 = K) (h3 : 4 ≤ bs.length) (hSz : nmW bs 3 1 = n) (h4 : 5 ≤ bs.length) (G : Nat) (hG : nmW bs 4 1 = G) (hg1 : G < n) (hk4 : K = 3) (hn : n ≤ 100) (er : Int) (hW : rdW n bs (5) = .error er) : Calls Tryz.prog 37 #[.pointer (some ⟨p, 0, none⟩), .int .i64 (n : Int)] w (FdO p ad cap bs (.error er) w) := by
 have hS0 := sf_start h
 have hm := wghm (w := w) (p := p) (ad := ad) (cap := cap) hM (by omega)
 have hr70 := zrn 70
 have hk := wghk (w := w) (p := p) (ad := ad) (cap := cap) hK (by omega)
 have hr71 := zrn 71
 have q0 : decide ((K : Int) < 1) = false := decide_eq_false (by omega)
 have q1 : decide ((3 : Int) < (K : Int)) = false := decide_eq_false (by omega)
 have hs := wghs (w := w) (p := p) (ad := ad) (cap := cap) (K := K) hSz (by omega)
 have hr102 := zrn 102
 have hf := wghf (w := w) (p := p) (ad := ad) (cap := cap) (K := K) hG (by omega)
 have hr72 := zrn 72
 have q3 : decide (n ≤ G) = false := decide_eq_false (by omega)
 have hhr : ∀ w, Calls Tryz.prog 69 #[.int .i64 (K : Int)] w _ := hasRound_any K
 rw [decide_eq_false (fun q : K ≠ 3 => q hk4)] at hhr
 have hhh : ∀ w, Calls Tryz.prog 71 #[.int .i64 (K : Int)] w _ := hasHeard_any K
 rw [decide_eq_false (by omega : ¬ K = 2)] at hhh
 clear hk4
 have hx : ∀ W, SF w p ad cap bs 5 K (G : Int) 0 0 (.slice none 0 0) W → Calls Tryz.prog 76 #[.pointer (some ⟨p, 0, none⟩), .int .i64 (n : Int)] W fun e W' => e = .panicked (rfu er) ∧ Kb p w W' := fun W h => SF.newsx h n hn er hW
 obtain ⟨⟨c0, c1, c2, c3, c4, c5, c6, c7⟩, z0, z1, z2, z3, z4, z5, z6, z7⟩ := hS0.facts
 go_enter Tryz.func37, Tryz.ntmps37
 go_wp2_with (first | (go_at_call 68; (with_reducible refine (hm _ hS0).mono ?_); rintro e u1 ⟨rfl, hS1⟩; clear c0 c1 c2 c3 c4 c5 c6 c7 z0 z1 z2 z3 z4 z5 z6 z7; obtain ⟨⟨c0, c1, c2, c3, c4, c5, c6, c7⟩, z0, z1, z2, z3, z4, z5, z6, z7⟩ := hS1.facts) | (go_at_call 67; (with_reducible refine (hr70 _).mono ?_); rintro e ur ⟨rfl, hu⟩; rw [hu]; clear hu ur) | (go_at_call 68; (with_reducible refine (hk _ hS1).mono ?_); rintro e u2 ⟨rfl, hS2⟩; clear c0 c1 c2 c3 c4 c5 c6 c7 z0 z1 z2 z3 z4 z5 z6 z7; obtain ⟨⟨c0, c1, c2, c3, c4, c5, c6, c7⟩, z0, z1, z2, z3, z4, z5, z6, z7⟩ := hS2.facts; have hS3 := hS2.s0 K) | (go_at_call 67; (with_reducible refine (hr71 _).mono ?_); rintro e ur ⟨rfl, hu⟩; rw [hu]; clear hu ur) | (go_at_call 68; (with_reducible refine (hs _ hS3).mono ?_); rintro e u4 ⟨rfl, hS4⟩; clear c0 c1 c2 c3 c4 c5 c6 c7 z0 z1 z2 z3 z4 z5 z6 z7; obtain ⟨⟨c0, c1, c2, c3, c4, c5, c6, c7⟩, z0, z1, z2, z3, z4, z5, z6, z7⟩ := hS4.facts) | (go_at_call 67; (with_reducible refine (hr102 _).mono ?_); rintro e ur ⟨rfl, hu⟩; rw [hu]; clear hu ur) | (go_at_call 68; (with_reducible refine (hf _ hS4).mono ?_); rintro e u5 ⟨rfl, hS5⟩; clear c0 c1 c2 c3 c4 c5 c6 c7 z0 z1 z2 z3 z4 z5 z6 z7; obtain ⟨⟨c0, c1, c2, c3, c4, c5, c6, c7⟩, z0, z1, z2, z3, z4, z5, z6, z7⟩ := hS5.facts; have hS6 := hS5.s1 (G : Int)) | (go_at_call 67; (with_reducible refine (hr72 _).mono ?_); rintro e ur ⟨rfl, hu⟩; rw [hu]; clear hu ur) | (go_at_call 69; (with_reducible refine (hhr _).mono ?_); rintro e ur ⟨rfl, hu⟩; rw [hu]; clear hu ur) | (go_at_call 71; (with_reducible refine (hhh _).mono ?_); rintro e ur ⟨rfl, hu⟩; rw [hu]; clear hu ur) | (go_at_call 76; (with_reducible refine (hx _ hS6).mono ?_); rintro e ux ⟨rfl, hkx⟩))
 exact ⟨rfl, fdo_err rfl hkx⟩
theorem fd9o {w : World} {p : Nat} {ad : Option Addr} {cap : Nat} {bs : List Nat} (h : Rdr w p ad cap bs 0) (n : Nat) (h1 : 2 ≤ bs.length) (hM : nmW bs 0 2 = 25971) (h2 : 3 ≤ bs.length) (K : Nat) (hK : nmW bs 2 1 = K) (h3 : 4 ≤ bs.length) (hSz : nmW bs 3 1 = n) (h4 : 5 ≤ bs.length) (G : Nat) (hG : nmW bs 4 1 = G) (hg1 : G < n) (hk4 : K = 3) (hn : n ≤ 100) (l : List (Int × Int × Int)) (j : Nat) (hW : rdW n bs (5) = .ok (l, j)) : Calls Tryz.prog 37 #[.pointer (some ⟨p, 0, none⟩), .int .i64 (n : Int)] w (FdO p ad cap bs (.ok ((K, G, 0, 0, l), j)) w) := by
 have hS0 := sf_start h
 have hm := wghm (w := w) (p := p) (ad := ad) (cap := cap) hM (by omega)
 have hr70 := zrn 70
 have hk := wghk (w := w) (p := p) (ad := ad) (cap := cap) hK (by omega)
 have hr71 := zrn 71
 have q0 : decide ((K : Int) < 1) = false := decide_eq_false (by omega)
 have q1 : decide ((3 : Int) < (K : Int)) = false := decide_eq_false (by omega)
 have hs := wghs (w := w) (p := p) (ad := ad) (cap := cap) (K := K) hSz (by omega)
 have hr102 := zrn 102
 have hf := wghf (w := w) (p := p) (ad := ad) (cap := cap) (K := K) hG (by omega)
 have hr72 := zrn 72
 have q3 : decide (n ≤ G) = false := decide_eq_false (by omega)
 have hhr : ∀ w, Calls Tryz.prog 69 #[.int .i64 (K : Int)] w _ := hasRound_any K
 rw [decide_eq_false (fun q : K ≠ 3 => q hk4)] at hhr
 have hhh : ∀ w, Calls Tryz.prog 71 #[.int .i64 (K : Int)] w _ := hasHeard_any K
 rw [decide_eq_false (by omega : ¬ K = 2)] at hhh
 clear hk4
 have ho : ∀ W, SF w p ad cap bs 5 K (G : Int) 0 0 (.slice none 0 0) W → Calls Tryz.prog 76 #[.pointer (some ⟨p, 0, none⟩), .int .i64 (n : Int)] W fun e W' => ∃ a2 c2, e = .returned (.slice a2 l.length c2) ∧ W'.ownsRow (w.heap.size + 2) 65 3 (.slice a2 l.length c2) l.length (fl l) ∧ SF w p ad cap bs j K (G : Int) 0 0 (.slice none 0 0) W' := fun W h => SF.newso h n hn l j hW
 obtain ⟨⟨c0, c1, c2, c3, c4, c5, c6, c7⟩, z0, z1, z2, z3, z4, z5, z6, z7⟩ := hS0.facts
 go_enter Tryz.func37, Tryz.ntmps37
 go_wp2_with (first | (go_at_call 68; (with_reducible refine (hm _ hS0).mono ?_); rintro e u1 ⟨rfl, hS1⟩; clear c0 c1 c2 c3 c4 c5 c6 c7 z0 z1 z2 z3 z4 z5 z6 z7; obtain ⟨⟨c0, c1, c2, c3, c4, c5, c6, c7⟩, z0, z1, z2, z3, z4, z5, z6, z7⟩ := hS1.facts) | (go_at_call 67; (with_reducible refine (hr70 _).mono ?_); rintro e ur ⟨rfl, hu⟩; rw [hu]; clear hu ur) | (go_at_call 68; (with_reducible refine (hk _ hS1).mono ?_); rintro e u2 ⟨rfl, hS2⟩; clear c0 c1 c2 c3 c4 c5 c6 c7 z0 z1 z2 z3 z4 z5 z6 z7; obtain ⟨⟨c0, c1, c2, c3, c4, c5, c6, c7⟩, z0, z1, z2, z3, z4, z5, z6, z7⟩ := hS2.facts; have hS3 := hS2.s0 K) | (go_at_call 67; (with_reducible refine (hr71 _).mono ?_); rintro e ur ⟨rfl, hu⟩; rw [hu]; clear hu ur) | (go_at_call 68; (with_reducible refine (hs _ hS3).mono ?_); rintro e u4 ⟨rfl, hS4⟩; clear c0 c1 c2 c3 c4 c5 c6 c7 z0 z1 z2 z3 z4 z5 z6 z7; obtain ⟨⟨c0, c1, c2, c3, c4, c5, c6, c7⟩, z0, z1, z2, z3, z4, z5, z6, z7⟩ := hS4.facts) | (go_at_call 67; (with_reducible refine (hr102 _).mono ?_); rintro e ur ⟨rfl, hu⟩; rw [hu]; clear hu ur) | (go_at_call 68; (with_reducible refine (hf _ hS4).mono ?_); rintro e u5 ⟨rfl, hS5⟩; clear c0 c1 c2 c3 c4 c5 c6 c7 z0 z1 z2 z3 z4 z5 z6 z7; obtain ⟨⟨c0, c1, c2, c3, c4, c5, c6, c7⟩, z0, z1, z2, z3, z4, z5, z6, z7⟩ := hS5.facts; have hS6 := hS5.s1 (G : Int)) | (go_at_call 67; (with_reducible refine (hr72 _).mono ?_); rintro e ur ⟨rfl, hu⟩; rw [hu]; clear hu ur) | (go_at_call 69; (with_reducible refine (hhr _).mono ?_); rintro e ur ⟨rfl, hu⟩; rw [hu]; clear hu ur) | (go_at_call 71; (with_reducible refine (hhh _).mono ?_); rintro e ur ⟨rfl, hu⟩; rw [hu]; clear hu ur) | (go_at_call 76; (with_reducible refine (ho _ hS6).mono ?_); rintro e uz ⟨ax, cx, rfl, hox, hSz⟩; have hE := SF.end8 (fr := G) (rd := 0) hSz hox; clear c0 c1 c2 c3 c4 c5 c6 c7 z0 z1 z2 z3 z4 z5 z6 z7; obtain ⟨⟨c0, c1, c2, c3, c4, c5, c6, c7⟩, z0, z1, z2, z3, z4, z5, z6, z7⟩ := hSz.facts; obtain ⟨d0, d1, d2, d3, d4, d5, d6, d7⟩ := hSz.f0.cells; have y0 := hSz.f0.thaw 0; have y1 := hSz.f0.thaw 1; have y2 := hSz.f0.thaw 2; have y3 := hSz.f0.thaw 3; have y4 := hSz.f0.thaw 4; have y5 := hSz.f0.thaw 5; have y6 := hSz.f0.thaw 6; have y7 := hSz.f0.thaw 7))
 exact retF rfl rfl rfl hE.1 hE.2
theorem fd10 {w : World} {p : Nat} {ad : Option Addr} {cap : Nat} {bs : List Nat} (h : Rdr w p ad cap bs 0) (n : Nat) (h1 : 2 ≤ bs.length) (hM : nmW bs 0 2 = 25971) (h2 : 3 ≤ bs.length) (K : Nat) (hK : nmW bs 2 1 = K) (hk1 : 1 ≤ K) (hk3 : K ≤ 3) (hk4 : K ≠ 3) (h3 : 4 ≤ bs.length) (hSz : nmW bs 3 1 = n) (h4 : 5 ≤ bs.length) (G : Nat) (hG : nmW bs 4 1 = G) (hg1 : G < n) (h5 : bs.length < 10) : Calls Tryz.prog 37 #[.pointer (some ⟨p, 0, none⟩), .int .i64 (n : Int)] w (FdO p ad cap bs (.error 76) w) := by
 have hS0 := sf_start h
 have hm := wghm (w := w) (p := p) (ad := ad) (cap := cap) hM (by omega)
 have hr70 := zrn 70
 have hk := wghk (w := w) (p := p) (ad := ad) (cap := cap) hK (by omega)
 have hr71 := zrn 71
 have q0 : decide ((K : Int) < 1) = false := decide_eq_false (by omega)
 have q1 : decide ((3 : Int) < (K : Int)) = false := decide_eq_false (by omega)
 have hs := wghs (w := w) (p := p) (ad := ad) (cap := cap) (K := K) hSz (by omega)
 have hr102 := zrn 102
 have hf := wghf (w := w) (p := p) (ad := ad) (cap := cap) (K := K) hG (by omega)
 have hr72 := zrn 72
 have q3 : decide (n ≤ G) = false := decide_eq_false (by omega)
 have hhr : ∀ w, Calls Tryz.prog 69 #[.int .i64 (K : Int)] w _ := hasRound_any K
 rw [decide_eq_true hk4] at hhr
 have hx : ∀ W, SF w p ad cap bs 5 K (G : Int) 0 0 (.slice none 0 0) W → Calls Tryz.prog 68 #[.pointer (some ⟨p, 0, none⟩), .int .i64 5] W fun e W' => e = .panicked (rfu 76) ∧ Kb p w W' := fun W h => SF.numx h 5 (by omega)
 obtain ⟨⟨c0, c1, c2, c3, c4, c5, c6, c7⟩, z0, z1, z2, z3, z4, z5, z6, z7⟩ := hS0.facts
 go_enter Tryz.func37, Tryz.ntmps37
 go_wp2_with (first | (go_at_call 68; (with_reducible refine (hm _ hS0).mono ?_); rintro e u1 ⟨rfl, hS1⟩; clear c0 c1 c2 c3 c4 c5 c6 c7 z0 z1 z2 z3 z4 z5 z6 z7; obtain ⟨⟨c0, c1, c2, c3, c4, c5, c6, c7⟩, z0, z1, z2, z3, z4, z5, z6, z7⟩ := hS1.facts) | (go_at_call 67; (with_reducible refine (hr70 _).mono ?_); rintro e ur ⟨rfl, hu⟩; rw [hu]; clear hu ur) | (go_at_call 68; (with_reducible refine (hk _ hS1).mono ?_); rintro e u2 ⟨rfl, hS2⟩; clear c0 c1 c2 c3 c4 c5 c6 c7 z0 z1 z2 z3 z4 z5 z6 z7; obtain ⟨⟨c0, c1, c2, c3, c4, c5, c6, c7⟩, z0, z1, z2, z3, z4, z5, z6, z7⟩ := hS2.facts; have hS3 := hS2.s0 K) | (go_at_call 67; (with_reducible refine (hr71 _).mono ?_); rintro e ur ⟨rfl, hu⟩; rw [hu]; clear hu ur) | (go_at_call 68; (with_reducible refine (hs _ hS3).mono ?_); rintro e u4 ⟨rfl, hS4⟩; clear c0 c1 c2 c3 c4 c5 c6 c7 z0 z1 z2 z3 z4 z5 z6 z7; obtain ⟨⟨c0, c1, c2, c3, c4, c5, c6, c7⟩, z0, z1, z2, z3, z4, z5, z6, z7⟩ := hS4.facts) | (go_at_call 67; (with_reducible refine (hr102 _).mono ?_); rintro e ur ⟨rfl, hu⟩; rw [hu]; clear hu ur) | (go_at_call 68; (with_reducible refine (hf _ hS4).mono ?_); rintro e u5 ⟨rfl, hS5⟩; clear c0 c1 c2 c3 c4 c5 c6 c7 z0 z1 z2 z3 z4 z5 z6 z7; obtain ⟨⟨c0, c1, c2, c3, c4, c5, c6, c7⟩, z0, z1, z2, z3, z4, z5, z6, z7⟩ := hS5.facts; have hS6 := hS5.s1 (G : Int)) | (go_at_call 67; (with_reducible refine (hr72 _).mono ?_); rintro e ur ⟨rfl, hu⟩; rw [hu]; clear hu ur) | (go_at_call 69; (with_reducible refine (hhr _).mono ?_); rintro e ur ⟨rfl, hu⟩; rw [hu]; clear hu ur) | (go_at_call 68; (with_reducible refine (hx _ hS6).mono ?_); rintro e ux ⟨rfl, hkx⟩))
 exact ⟨rfl, fdo_err rfl hkx⟩
theorem fd11 {w : World} {p : Nat} {ad : Option Addr} {cap : Nat} {bs : List Nat} (h : Rdr w p ad cap bs 0) (n : Nat) (h1 : 2 ≤ bs.length) (hM : nmW bs 0 2 = 25971) (h2 : 3 ≤ bs.length) (K : Nat) (hK : nmW bs 2 1 = K) (hk1 : 1 ≤ K) (hk3 : K ≤ 3) (hk4 : K ≠ 3) (h3 : 4 ≤ bs.length) (hSz : nmW bs 3 1 = n) (h4 : 5 ≤ bs.length) (G : Nat) (hG : nmW bs 4 1 = G) (hg1 : G < n) (h5 : 10 ≤ bs.length) (Rd : Nat) (hRd : nmW bs 5 5 = Rd) (hrd : ¬ (1 ≤ Rd ∧ Rd ≤ 1099511627775)) : Calls Tryz.prog 37 #[.pointer (some ⟨p, 0, none⟩), .int .i64 (n : Int)] w (FdO p ad cap bs (.error 73) w) := by
 have hS0 := sf_start h
 have hm := wghm (w := w) (p := p) (ad := ad) (cap := cap) hM (by omega)
 have hr70 := zrn 70
 have hk := wghk (w := w) (p := p) (ad := ad) (cap := cap) hK (by omega)
 have hr71 := zrn 71
 have q0 : decide ((K : Int) < 1) = false := decide_eq_false (by omega)
 have q1 : decide ((3 : Int) < (K : Int)) = false := decide_eq_false (by omega)
 have hs := wghs (w := w) (p := p) (ad := ad) (cap := cap) (K := K) hSz (by omega)
 have hr102 := zrn 102
 have hf := wghf (w := w) (p := p) (ad := ad) (cap := cap) (K := K) hG (by omega)
 have hr72 := zrn 72
 have q3 : decide (n ≤ G) = false := decide_eq_false (by omega)
 have hhr : ∀ w, Calls Tryz.prog 69 #[.int .i64 (K : Int)] w _ := hasRound_any K
 rw [decide_eq_true hk4] at hhr
 have hq := wghq (w := w) (p := p) (ad := ad) (cap := cap) (K := K) (G := G) hRd (by omega)
 have hir : ∀ w, Calls Tryz.prog 70 #[.int .i64 (Rd : Int)] w _ := isRound_any (Rd : Int)
 rw [decide_eq_false (by omega)] at hir
 have hr73 := refuse_yes 73
 obtain ⟨⟨c0, c1, c2, c3, c4, c5, c6, c7⟩, z0, z1, z2, z3, z4, z5, z6, z7⟩ := hS0.facts
 go_enter Tryz.func37, Tryz.ntmps37
 go_wp2_with (first | (go_at_call 68; (with_reducible refine (hm _ hS0).mono ?_); rintro e u1 ⟨rfl, hS1⟩; clear c0 c1 c2 c3 c4 c5 c6 c7 z0 z1 z2 z3 z4 z5 z6 z7; obtain ⟨⟨c0, c1, c2, c3, c4, c5, c6, c7⟩, z0, z1, z2, z3, z4, z5, z6, z7⟩ := hS1.facts) | (go_at_call 67; (with_reducible refine (hr70 _).mono ?_); rintro e ur ⟨rfl, hu⟩; rw [hu]; clear hu ur) | (go_at_call 68; (with_reducible refine (hk _ hS1).mono ?_); rintro e u2 ⟨rfl, hS2⟩; clear c0 c1 c2 c3 c4 c5 c6 c7 z0 z1 z2 z3 z4 z5 z6 z7; obtain ⟨⟨c0, c1, c2, c3, c4, c5, c6, c7⟩, z0, z1, z2, z3, z4, z5, z6, z7⟩ := hS2.facts; have hS3 := hS2.s0 K) | (go_at_call 67; (with_reducible refine (hr71 _).mono ?_); rintro e ur ⟨rfl, hu⟩; rw [hu]; clear hu ur) | (go_at_call 68; (with_reducible refine (hs _ hS3).mono ?_); rintro e u4 ⟨rfl, hS4⟩; clear c0 c1 c2 c3 c4 c5 c6 c7 z0 z1 z2 z3 z4 z5 z6 z7; obtain ⟨⟨c0, c1, c2, c3, c4, c5, c6, c7⟩, z0, z1, z2, z3, z4, z5, z6, z7⟩ := hS4.facts) | (go_at_call 67; (with_reducible refine (hr102 _).mono ?_); rintro e ur ⟨rfl, hu⟩; rw [hu]; clear hu ur) | (go_at_call 68; (with_reducible refine (hf _ hS4).mono ?_); rintro e u5 ⟨rfl, hS5⟩; clear c0 c1 c2 c3 c4 c5 c6 c7 z0 z1 z2 z3 z4 z5 z6 z7; obtain ⟨⟨c0, c1, c2, c3, c4, c5, c6, c7⟩, z0, z1, z2, z3, z4, z5, z6, z7⟩ := hS5.facts; have hS6 := hS5.s1 (G : Int)) | (go_at_call 67; (with_reducible refine (hr72 _).mono ?_); rintro e ur ⟨rfl, hu⟩; rw [hu]; clear hu ur) | (go_at_call 69; (with_reducible refine (hhr _).mono ?_); rintro e ur ⟨rfl, hu⟩; rw [hu]; clear hu ur) | (go_at_call 68; (with_reducible refine (hq _ hS6).mono ?_); rintro e u7 ⟨rfl, hS7⟩; clear c0 c1 c2 c3 c4 c5 c6 c7 z0 z1 z2 z3 z4 z5 z6 z7; obtain ⟨⟨c0, c1, c2, c3, c4, c5, c6, c7⟩, z0, z1, z2, z3, z4, z5, z6, z7⟩ := hS7.facts; have hS8 := hS7.s2 (Rd : Int)) | (go_at_call 70; (with_reducible refine (hir _).mono ?_); rintro e ur ⟨rfl, hu⟩; rw [hu]; clear hu ur) | (go_at_call 67; (with_reducible refine (hr73 _).mono ?_); rintro e ur ⟨rfl, hu⟩; rw [hu]; clear hu ur))
 exact ⟨rfl, fdo_err rfl hS8.kb⟩
theorem fd12x {w : World} {p : Nat} {ad : Option Addr} {cap : Nat} {bs : List Nat} (h : Rdr w p ad cap bs 0) (n : Nat) (h1 : 2 ≤ bs.length) (hM : nmW bs 0 2 = 25971) (h2 : 3 ≤ bs.length) (K : Nat) (hK : nmW bs 2 1 = K) (hk1 : 1 ≤ K) (hk3 : K ≤ 3) (hk4 : K ≠ 3) (h3 : 4 ≤ bs.length) (hSz : nmW bs 3 1 = n) (h4 : 5 ≤ bs.length) (G : Nat) (hG : nmW bs 4 1 = G) (hg1 : G < n) (h5 : 10 ≤ bs.length) (Rd : Nat) (hRd : nmW bs 5 5 = Rd) (hrd : 1 ≤ Rd ∧ Rd ≤ 1099511627775) (hk5 : ¬ K = 2) (hn : n ≤ 100) (er : Int) (hW : rdW n bs (10) = .error er) : Calls Tryz.prog 37 #[.pointer (some ⟨p, 0, none⟩), .int .i64 (n : Int)] w (FdO p ad cap bs (.error er) w) := by
 have hS0 := sf_start h
 have hm := wghm (w := w) (p := p) (ad := ad) (cap := cap) hM (by omega)
 have hr70 := zrn 70
 have hk := wghk (w := w) (p := p) (ad := ad) (cap := cap) hK (by omega)
 have hr71 := zrn 71
 have q0 : decide ((K : Int) < 1) = false := decide_eq_false (by omega)
 have q1 : decide ((3 : Int) < (K : Int)) = false := decide_eq_false (by omega)
 have hs := wghs (w := w) (p := p) (ad := ad) (cap := cap) (K := K) hSz (by omega)
 have hr102 := zrn 102
 have hf := wghf (w := w) (p := p) (ad := ad) (cap := cap) (K := K) hG (by omega)
 have hr72 := zrn 72
 have q3 : decide (n ≤ G) = false := decide_eq_false (by omega)
 have hhr : ∀ w, Calls Tryz.prog 69 #[.int .i64 (K : Int)] w _ := hasRound_any K
 rw [decide_eq_true hk4] at hhr
 have hq := wghq (w := w) (p := p) (ad := ad) (cap := cap) (K := K) (G := G) hRd (by omega)
 have hir : ∀ w, Calls Tryz.prog 70 #[.int .i64 (Rd : Int)] w _ := isRound_any (Rd : Int)
 rw [decide_eq_true (by omega)] at hir
 have hr73 := zrn 73
 have hhh : ∀ w, Calls Tryz.prog 71 #[.int .i64 (K : Int)] w _ := hasHeard_any K
 rw [decide_eq_false hk5] at hhh
 have hx : ∀ W, SF w p ad cap bs 10 K (G : Int) (Rd : Int) 0 (.slice none 0 0) W → Calls Tryz.prog 76 #[.pointer (some ⟨p, 0, none⟩), .int .i64 (n : Int)] W fun e W' => e = .panicked (rfu er) ∧ Kb p w W' := fun W h => SF.newsx h n hn er hW
 obtain ⟨⟨c0, c1, c2, c3, c4, c5, c6, c7⟩, z0, z1, z2, z3, z4, z5, z6, z7⟩ := hS0.facts
 go_enter Tryz.func37, Tryz.ntmps37
 go_wp2_with (first | (go_at_call 68; (with_reducible refine (hm _ hS0).mono ?_); rintro e u1 ⟨rfl, hS1⟩; clear c0 c1 c2 c3 c4 c5 c6 c7 z0 z1 z2 z3 z4 z5 z6 z7; obtain ⟨⟨c0, c1, c2, c3, c4, c5, c6, c7⟩, z0, z1, z2, z3, z4, z5, z6, z7⟩ := hS1.facts) | (go_at_call 67; (with_reducible refine (hr70 _).mono ?_); rintro e ur ⟨rfl, hu⟩; rw [hu]; clear hu ur) | (go_at_call 68; (with_reducible refine (hk _ hS1).mono ?_); rintro e u2 ⟨rfl, hS2⟩; clear c0 c1 c2 c3 c4 c5 c6 c7 z0 z1 z2 z3 z4 z5 z6 z7; obtain ⟨⟨c0, c1, c2, c3, c4, c5, c6, c7⟩, z0, z1, z2, z3, z4, z5, z6, z7⟩ := hS2.facts; have hS3 := hS2.s0 K) | (go_at_call 67; (with_reducible refine (hr71 _).mono ?_); rintro e ur ⟨rfl, hu⟩; rw [hu]; clear hu ur) | (go_at_call 68; (with_reducible refine (hs _ hS3).mono ?_); rintro e u4 ⟨rfl, hS4⟩; clear c0 c1 c2 c3 c4 c5 c6 c7 z0 z1 z2 z3 z4 z5 z6 z7; obtain ⟨⟨c0, c1, c2, c3, c4, c5, c6, c7⟩, z0, z1, z2, z3, z4, z5, z6, z7⟩ := hS4.facts) | (go_at_call 67; (with_reducible refine (hr102 _).mono ?_); rintro e ur ⟨rfl, hu⟩; rw [hu]; clear hu ur) | (go_at_call 68; (with_reducible refine (hf _ hS4).mono ?_); rintro e u5 ⟨rfl, hS5⟩; clear c0 c1 c2 c3 c4 c5 c6 c7 z0 z1 z2 z3 z4 z5 z6 z7; obtain ⟨⟨c0, c1, c2, c3, c4, c5, c6, c7⟩, z0, z1, z2, z3, z4, z5, z6, z7⟩ := hS5.facts; have hS6 := hS5.s1 (G : Int)) | (go_at_call 67; (with_reducible refine (hr72 _).mono ?_); rintro e ur ⟨rfl, hu⟩; rw [hu]; clear hu ur) | (go_at_call 69; (with_reducible refine (hhr _).mono ?_); rintro e ur ⟨rfl, hu⟩; rw [hu]; clear hu ur) | (go_at_call 68; (with_reducible refine (hq _ hS6).mono ?_); rintro e u7 ⟨rfl, hS7⟩; clear c0 c1 c2 c3 c4 c5 c6 c7 z0 z1 z2 z3 z4 z5 z6 z7; obtain ⟨⟨c0, c1, c2, c3, c4, c5, c6, c7⟩, z0, z1, z2, z3, z4, z5, z6, z7⟩ := hS7.facts; have hS8 := hS7.s2 (Rd : Int)) | (go_at_call 70; (with_reducible refine (hir _).mono ?_); rintro e ur ⟨rfl, hu⟩; rw [hu]; clear hu ur) | (go_at_call 67; (with_reducible refine (hr73 _).mono ?_); rintro e ur ⟨rfl, hu⟩; rw [hu]; clear hu ur) | (go_at_call 71; (with_reducible refine (hhh _).mono ?_); rintro e ur ⟨rfl, hu⟩; rw [hu]; clear hu ur) | (go_at_call 76; (with_reducible refine (hx _ hS8).mono ?_); rintro e ux ⟨rfl, hkx⟩))
 exact ⟨rfl, fdo_err rfl hkx⟩
theorem fd12o {w : World} {p : Nat} {ad : Option Addr} {cap : Nat} {bs : List Nat} (h : Rdr w p ad cap bs 0) (n : Nat) (h1 : 2 ≤ bs.length) (hM : nmW bs 0 2 = 25971) (h2 : 3 ≤ bs.length) (K : Nat) (hK : nmW bs 2 1 = K) (hk1 : 1 ≤ K) (hk3 : K ≤ 3) (hk4 : K ≠ 3) (h3 : 4 ≤ bs.length) (hSz : nmW bs 3 1 = n) (h4 : 5 ≤ bs.length) (G : Nat) (hG : nmW bs 4 1 = G) (hg1 : G < n) (h5 : 10 ≤ bs.length) (Rd : Nat) (hRd : nmW bs 5 5 = Rd) (hrd : 1 ≤ Rd ∧ Rd ≤ 1099511627775) (hk5 : ¬ K = 2) (hn : n ≤ 100) (l : List (Int × Int × Int)) (j : Nat) (hW : rdW n bs (10) = .ok (l, j)) : Calls Tryz.prog 37 #[.pointer (some ⟨p, 0, none⟩), .int .i64 (n : Int)] w (FdO p ad cap bs (.ok ((K, G, Rd, 0, l), j)) w) := by
 have hS0 := sf_start h
 have hm := wghm (w := w) (p := p) (ad := ad) (cap := cap) hM (by omega)
 have hr70 := zrn 70
 have hk := wghk (w := w) (p := p) (ad := ad) (cap := cap) hK (by omega)
 have hr71 := zrn 71
 have q0 : decide ((K : Int) < 1) = false := decide_eq_false (by omega)
 have q1 : decide ((3 : Int) < (K : Int)) = false := decide_eq_false (by omega)
 have hs := wghs (w := w) (p := p) (ad := ad) (cap := cap) (K := K) hSz (by omega)
 have hr102 := zrn 102
 have hf := wghf (w := w) (p := p) (ad := ad) (cap := cap) (K := K) hG (by omega)
 have hr72 := zrn 72
 have q3 : decide (n ≤ G) = false := decide_eq_false (by omega)
 have hhr : ∀ w, Calls Tryz.prog 69 #[.int .i64 (K : Int)] w _ := hasRound_any K
 rw [decide_eq_true hk4] at hhr
 have hq := wghq (w := w) (p := p) (ad := ad) (cap := cap) (K := K) (G := G) hRd (by omega)
 have hir : ∀ w, Calls Tryz.prog 70 #[.int .i64 (Rd : Int)] w _ := isRound_any (Rd : Int)
 rw [decide_eq_true (by omega)] at hir
 have hr73 := zrn 73
 have hhh : ∀ w, Calls Tryz.prog 71 #[.int .i64 (K : Int)] w _ := hasHeard_any K
 rw [decide_eq_false hk5] at hhh
 have ho : ∀ W, SF w p ad cap bs 10 K (G : Int) (Rd : Int) 0 (.slice none 0 0) W → Calls Tryz.prog 76 #[.pointer (some ⟨p, 0, none⟩), .int .i64 (n : Int)] W fun e W' => ∃ a2 c2, e = .returned (.slice a2 l.length c2) ∧ W'.ownsRow (w.heap.size + 2) 65 3 (.slice a2 l.length c2) l.length (fl l) ∧ SF w p ad cap bs j K (G : Int) (Rd : Int) 0 (.slice none 0 0) W' := fun W h => SF.newso h n hn l j hW
 obtain ⟨⟨c0, c1, c2, c3, c4, c5, c6, c7⟩, z0, z1, z2, z3, z4, z5, z6, z7⟩ := hS0.facts
 go_enter Tryz.func37, Tryz.ntmps37
 go_wp2_with (first | (go_at_call 68; (with_reducible refine (hm _ hS0).mono ?_); rintro e u1 ⟨rfl, hS1⟩; clear c0 c1 c2 c3 c4 c5 c6 c7 z0 z1 z2 z3 z4 z5 z6 z7; obtain ⟨⟨c0, c1, c2, c3, c4, c5, c6, c7⟩, z0, z1, z2, z3, z4, z5, z6, z7⟩ := hS1.facts) | (go_at_call 67; (with_reducible refine (hr70 _).mono ?_); rintro e ur ⟨rfl, hu⟩; rw [hu]; clear hu ur) | (go_at_call 68; (with_reducible refine (hk _ hS1).mono ?_); rintro e u2 ⟨rfl, hS2⟩; clear c0 c1 c2 c3 c4 c5 c6 c7 z0 z1 z2 z3 z4 z5 z6 z7; obtain ⟨⟨c0, c1, c2, c3, c4, c5, c6, c7⟩, z0, z1, z2, z3, z4, z5, z6, z7⟩ := hS2.facts; have hS3 := hS2.s0 K) | (go_at_call 67; (with_reducible refine (hr71 _).mono ?_); rintro e ur ⟨rfl, hu⟩; rw [hu]; clear hu ur) | (go_at_call 68; (with_reducible refine (hs _ hS3).mono ?_); rintro e u4 ⟨rfl, hS4⟩; clear c0 c1 c2 c3 c4 c5 c6 c7 z0 z1 z2 z3 z4 z5 z6 z7; obtain ⟨⟨c0, c1, c2, c3, c4, c5, c6, c7⟩, z0, z1, z2, z3, z4, z5, z6, z7⟩ := hS4.facts) | (go_at_call 67; (with_reducible refine (hr102 _).mono ?_); rintro e ur ⟨rfl, hu⟩; rw [hu]; clear hu ur) | (go_at_call 68; (with_reducible refine (hf _ hS4).mono ?_); rintro e u5 ⟨rfl, hS5⟩; clear c0 c1 c2 c3 c4 c5 c6 c7 z0 z1 z2 z3 z4 z5 z6 z7; obtain ⟨⟨c0, c1, c2, c3, c4, c5, c6, c7⟩, z0, z1, z2, z3, z4, z5, z6, z7⟩ := hS5.facts; have hS6 := hS5.s1 (G : Int)) | (go_at_call 67; (with_reducible refine (hr72 _).mono ?_); rintro e ur ⟨rfl, hu⟩; rw [hu]; clear hu ur) | (go_at_call 69; (with_reducible refine (hhr _).mono ?_); rintro e ur ⟨rfl, hu⟩; rw [hu]; clear hu ur) | (go_at_call 68; (with_reducible refine (hq _ hS6).mono ?_); rintro e u7 ⟨rfl, hS7⟩; clear c0 c1 c2 c3 c4 c5 c6 c7 z0 z1 z2 z3 z4 z5 z6 z7; obtain ⟨⟨c0, c1, c2, c3, c4, c5, c6, c7⟩, z0, z1, z2, z3, z4, z5, z6, z7⟩ := hS7.facts; have hS8 := hS7.s2 (Rd : Int)) | (go_at_call 70; (with_reducible refine (hir _).mono ?_); rintro e ur ⟨rfl, hu⟩; rw [hu]; clear hu ur) | (go_at_call 67; (with_reducible refine (hr73 _).mono ?_); rintro e ur ⟨rfl, hu⟩; rw [hu]; clear hu ur) | (go_at_call 71; (with_reducible refine (hhh _).mono ?_); rintro e ur ⟨rfl, hu⟩; rw [hu]; clear hu ur) | (go_at_call 76; (with_reducible refine (ho _ hS8).mono ?_); rintro e uz ⟨ax, cx, rfl, hox, hSz⟩; have hE := SF.end8 (fr := G) (rd := Rd) hSz hox; clear c0 c1 c2 c3 c4 c5 c6 c7 z0 z1 z2 z3 z4 z5 z6 z7; obtain ⟨⟨c0, c1, c2, c3, c4, c5, c6, c7⟩, z0, z1, z2, z3, z4, z5, z6, z7⟩ := hSz.facts; obtain ⟨d0, d1, d2, d3, d4, d5, d6, d7⟩ := hSz.f0.cells; have y0 := hSz.f0.thaw 0; have y1 := hSz.f0.thaw 1; have y2 := hSz.f0.thaw 2; have y3 := hSz.f0.thaw 3; have y4 := hSz.f0.thaw 4; have y5 := hSz.f0.thaw 5; have y6 := hSz.f0.thaw 6; have y7 := hSz.f0.thaw 7))
 exact retF rfl rfl rfl hE.1 hE.2
theorem fd13 {w : World} {p : Nat} {ad : Option Addr} {cap : Nat} {bs : List Nat} (h : Rdr w p ad cap bs 0) (n : Nat) (h1 : 2 ≤ bs.length) (hM : nmW bs 0 2 = 25971) (h2 : 3 ≤ bs.length) (K : Nat) (hK : nmW bs 2 1 = K) (hk4 : K ≠ 3) (h3 : 4 ≤ bs.length) (hSz : nmW bs 3 1 = n) (h4 : 5 ≤ bs.length) (G : Nat) (hG : nmW bs 4 1 = G) (hg1 : G < n) (h5 : 10 ≤ bs.length) (Rd : Nat) (hRd : nmW bs 5 5 = Rd) (hrd : 1 ≤ Rd ∧ Rd ≤ 1099511627775) (hk5 : K = 2) (hn : n ≤ 100) (hn1 : 1 ≤ n) (h6 : bs.length < 10 + hsz n) : Calls Tryz.prog 37 #[.pointer (some ⟨p, 0, none⟩), .int .i64 (n : Int)] w (FdO p ad cap bs (.error 76) w) := by
 have hS0 := sf_start h
 have hm := wghm (w := w) (p := p) (ad := ad) (cap := cap) hM (by omega)
 have hr70 := zrn 70
 have hk := wghk (w := w) (p := p) (ad := ad) (cap := cap) hK (by omega)
 have hr71 := zrn 71
 have q0 : decide ((K : Int) < 1) = false := decide_eq_false (by omega)
 have q1 : decide ((3 : Int) < (K : Int)) = false := decide_eq_false (by omega)
 have hs := wghs (w := w) (p := p) (ad := ad) (cap := cap) (K := K) hSz (by omega)
 have hr102 := zrn 102
 have hf := wghf (w := w) (p := p) (ad := ad) (cap := cap) (K := K) hG (by omega)
 have hr72 := zrn 72
 have q3 : decide (n ≤ G) = false := decide_eq_false (by omega)
 have hhr : ∀ w, Calls Tryz.prog 69 #[.int .i64 (K : Int)] w _ := hasRound_any K
 rw [decide_eq_true hk4] at hhr
 have hq := wghq (w := w) (p := p) (ad := ad) (cap := cap) (K := K) (G := G) hRd (by omega)
 have hir : ∀ w, Calls Tryz.prog 70 #[.int .i64 (Rd : Int)] w _ := isRound_any (Rd : Int)
 rw [decide_eq_true (by omega)] at hir
 have hr73 := zrn 73
 have hhh : ∀ w, Calls Tryz.prog 71 #[.int .i64 (K : Int)] w _ := hasHeard_any K
 rw [decide_eq_true hk5] at hhh
 clear hk5
 have hhs : ∀ w, Calls Tryz.prog 74 #[.int .i64 (n : Int)] w _ := heardSize_any n hn
 obtain ⟨Z, hZ⟩ : ∃ Z, hsz n = Z := ⟨_, rfl⟩
 have hZ0 : 0 < Z := by rw [← hZ]; unfold hsz; omega
 have hZ13 : Z ≤ 13 := by rw [← hZ]; exact hsz_le hn
 rw [hZ] at hhs
 have hx : ∀ W, SF w p ad cap bs 10 K (G : Int) (Rd : Int) 0 (.slice none 0 0) W → Calls Tryz.prog 73 #[.pointer (some ⟨p, 0, none⟩), .int .i64 (Z : Int)] W fun e W' => e = .panicked (rfu 76) ∧ Kb p w W' := fun W h => (take_no h.rr Z (by omega)).mono (by rintro e W' ⟨rfl, hb⟩; exact ⟨rfl, (h.below hb).kb⟩)
 clear hZ
 obtain ⟨⟨c0, c1, c2, c3, c4, c5, c6, c7⟩, z0, z1, z2, z3, z4, z5, z6, z7⟩ := hS0.facts
 go_enter Tryz.func37, Tryz.ntmps37
 go_wp2_with (first | (go_at_call 68; (with_reducible refine (hm _ hS0).mono ?_); rintro e u1 ⟨rfl, hS1⟩; clear c0 c1 c2 c3 c4 c5 c6 c7 z0 z1 z2 z3 z4 z5 z6 z7; obtain ⟨⟨c0, c1, c2, c3, c4, c5, c6, c7⟩, z0, z1, z2, z3, z4, z5, z6, z7⟩ := hS1.facts) | (go_at_call 67; (with_reducible refine (hr70 _).mono ?_); rintro e ur ⟨rfl, hu⟩; rw [hu]; clear hu ur) | (go_at_call 68; (with_reducible refine (hk _ hS1).mono ?_); rintro e u2 ⟨rfl, hS2⟩; clear c0 c1 c2 c3 c4 c5 c6 c7 z0 z1 z2 z3 z4 z5 z6 z7; obtain ⟨⟨c0, c1, c2, c3, c4, c5, c6, c7⟩, z0, z1, z2, z3, z4, z5, z6, z7⟩ := hS2.facts; have hS3 := hS2.s0 K) | (go_at_call 67; (with_reducible refine (hr71 _).mono ?_); rintro e ur ⟨rfl, hu⟩; rw [hu]; clear hu ur) | (go_at_call 68; (with_reducible refine (hs _ hS3).mono ?_); rintro e u4 ⟨rfl, hS4⟩; clear c0 c1 c2 c3 c4 c5 c6 c7 z0 z1 z2 z3 z4 z5 z6 z7; obtain ⟨⟨c0, c1, c2, c3, c4, c5, c6, c7⟩, z0, z1, z2, z3, z4, z5, z6, z7⟩ := hS4.facts) | (go_at_call 67; (with_reducible refine (hr102 _).mono ?_); rintro e ur ⟨rfl, hu⟩; rw [hu]; clear hu ur) | (go_at_call 68; (with_reducible refine (hf _ hS4).mono ?_); rintro e u5 ⟨rfl, hS5⟩; clear c0 c1 c2 c3 c4 c5 c6 c7 z0 z1 z2 z3 z4 z5 z6 z7; obtain ⟨⟨c0, c1, c2, c3, c4, c5, c6, c7⟩, z0, z1, z2, z3, z4, z5, z6, z7⟩ := hS5.facts; have hS6 := hS5.s1 (G : Int)) | (go_at_call 67; (with_reducible refine (hr72 _).mono ?_); rintro e ur ⟨rfl, hu⟩; rw [hu]; clear hu ur) | (go_at_call 69; (with_reducible refine (hhr _).mono ?_); rintro e ur ⟨rfl, hu⟩; rw [hu]; clear hu ur) | (go_at_call 68; (with_reducible refine (hq _ hS6).mono ?_); rintro e u7 ⟨rfl, hS7⟩; clear c0 c1 c2 c3 c4 c5 c6 c7 z0 z1 z2 z3 z4 z5 z6 z7; obtain ⟨⟨c0, c1, c2, c3, c4, c5, c6, c7⟩, z0, z1, z2, z3, z4, z5, z6, z7⟩ := hS7.facts; have hS8 := hS7.s2 (Rd : Int)) | (go_at_call 70; (with_reducible refine (hir _).mono ?_); rintro e ur ⟨rfl, hu⟩; rw [hu]; clear hu ur) | (go_at_call 67; (with_reducible refine (hr73 _).mono ?_); rintro e ur ⟨rfl, hu⟩; rw [hu]; clear hu ur) | (go_at_call 71; (with_reducible refine (hhh _).mono ?_); rintro e ur ⟨rfl, hu⟩; rw [hu]; clear hu ur) | (go_at_call 74; (with_reducible refine (hhs _).mono ?_); rintro e ur ⟨rfl, hu⟩; rw [hu]; clear hu ur) | (go_at_call 73; (with_reducible refine (hx _ hS8).mono ?_); rintro e ux ⟨rfl, hkx⟩))
 exact ⟨rfl, fdo_err rfl hkx⟩
theorem fd14 {w : World} {p : Nat} {ad : Option Addr} {cap : Nat} {bs : List Nat} (h : Rdr w p ad cap bs 0) (n : Nat) (h1 : 2 ≤ bs.length) (hM : nmW bs 0 2 = 25971) (h2 : 3 ≤ bs.length) (K : Nat) (hK : nmW bs 2 1 = K) (hk4 : K ≠ 3) (h3 : 4 ≤ bs.length) (hSz : nmW bs 3 1 = n) (h4 : 5 ≤ bs.length) (G : Nat) (hG : nmW bs 4 1 = G) (hg1 : G < n) (h5 : 10 ≤ bs.length) (Rd : Nat) (hRd : nmW bs 5 5 = Rd) (hrd : 1 ≤ Rd ∧ Rd ≤ 1099511627775) (hk5 : K = 2) (hn : n ≤ 100) (hn1 : 1 ≤ n) (h6 : 10 + hsz n ≤ bs.length) (M : Nat) (hMs : vlS ((bs.drop 10).take (hsz n)) = M) (hw : wthB M n = false) : Calls Tryz.prog 37 #[.pointer (some ⟨p, 0, none⟩), .int .i64 (n : Int)] w (FdO p ad cap bs (.error 74) w) := by
 have hS0 := sf_start h
 have hm := wghm (w := w) (p := p) (ad := ad) (cap := cap) hM (by omega)
 have hr70 := zrn 70
 have hk := wghk (w := w) (p := p) (ad := ad) (cap := cap) hK (by omega)
 have hr71 := zrn 71
 have q0 : decide ((K : Int) < 1) = false := decide_eq_false (by omega)
 have q1 : decide ((3 : Int) < (K : Int)) = false := decide_eq_false (by omega)
 have hs := wghs (w := w) (p := p) (ad := ad) (cap := cap) (K := K) hSz (by omega)
 have hr102 := zrn 102
 have hf := wghf (w := w) (p := p) (ad := ad) (cap := cap) (K := K) hG (by omega)
 have hr72 := zrn 72
 have q3 : decide (n ≤ G) = false := decide_eq_false (by omega)
 have hhr : ∀ w, Calls Tryz.prog 69 #[.int .i64 (K : Int)] w _ := hasRound_any K
 rw [decide_eq_true hk4] at hhr
 have hq := wghq (w := w) (p := p) (ad := ad) (cap := cap) (K := K) (G := G) hRd (by omega)
 have hir : ∀ w, Calls Tryz.prog 70 #[.int .i64 (Rd : Int)] w _ := isRound_any (Rd : Int)
 rw [decide_eq_true (by omega)] at hir
 have hr73 := zrn 73
 have hhh : ∀ w, Calls Tryz.prog 71 #[.int .i64 (K : Int)] w _ := hasHeard_any K
 rw [decide_eq_true hk5] at hhh
 clear hk5
 have hhs : ∀ w, Calls Tryz.prog 74 #[.int .i64 (n : Int)] w _ := heardSize_any n hn
 obtain ⟨Z, hZ⟩ : ∃ Z, hsz n = Z := ⟨_, rfl⟩
 have hZ0 : 0 < Z := by rw [← hZ]; unfold hsz; omega
 have hZ13 : Z ≤ 13 := by rw [← hZ]; exact hsz_le hn
 rw [hZ] at hhs
 have hto : ∀ W, SF w p ad cap bs 10 K (G : Int) (Rd : Int) 0 (.slice none 0 0) W → Calls Tryz.prog 73 #[.pointer (some ⟨p, 0, none⟩), .int .i64 (Z : Int)] W fun e W' => ∃ a c, e = .returned (.slice a Z c) ∧ RdBW W' a ((bs.drop 10).take Z) ∧ SF w p ad cap bs (10 + Z) K (G : Int) (Rd : Int) 0 (.slice none 0 0) W' := fun W h => (take_ok h.rr Z hZ0 (by omega)).mono (by rintro e W' ⟨a, c, rfl, _, hr, h1, h2⟩; exact ⟨a, c, rfl, hr, h.kbs h1 h2⟩)
 have hso : ∀ a c W, RdBW W a ((bs.drop 10).take Z) → Calls Tryz.prog 72 #[.slice a Z c] W fun e W' => e = .returned (.agg #[.int .u32 (wd M 0 : Nat), .int .u32 (wd M 1 : Nat), .int .u32 (wd M 2 : Nat), .int .u32 (wd M 3 : Nat)]) ∧ Below W.heap.size W W' := fun a c W hr => by
  have := setOf_any a c ((bs.drop 10).take Z) W hr ((h.byt.drop _).take _) (by rw [sub_len (by omega)]; omega)
  rw [sub_len (by omega), ← hZ, hMs] at this
  rw [← hZ]
  exact this
 have hM128 : M < S128 := by
  have := vlS_lt _ ((h.byt.drop 10).take (hsz n))
  rw [sub_len h6, hMs] at this
  exact Nat.lt_of_lt_of_le this (Nat.le_trans (Nat.pow_le_pow_right (n := 2) (by decide) (show 8 * hsz n ≤ 128 by omega)) (by decide))
 have hwi := within_any M hM128 (n : Int)
 simp only [sv] at hwi
 rw [hw] at hwi
 have hr74 := refuse_yes 74
 clear hZ
 obtain ⟨⟨c0, c1, c2, c3, c4, c5, c6, c7⟩, z0, z1, z2, z3, z4, z5, z6, z7⟩ := hS0.facts
 go_enter Tryz.func37, Tryz.ntmps37
 go_wp2_with (first | (go_at_call 68; (with_reducible refine (hm _ hS0).mono ?_); rintro e u1 ⟨rfl, hS1⟩; clear c0 c1 c2 c3 c4 c5 c6 c7 z0 z1 z2 z3 z4 z5 z6 z7; obtain ⟨⟨c0, c1, c2, c3, c4, c5, c6, c7⟩, z0, z1, z2, z3, z4, z5, z6, z7⟩ := hS1.facts) | (go_at_call 67; (with_reducible refine (hr70 _).mono ?_); rintro e ur ⟨rfl, hu⟩; rw [hu]; clear hu ur) | (go_at_call 68; (with_reducible refine (hk _ hS1).mono ?_); rintro e u2 ⟨rfl, hS2⟩; clear c0 c1 c2 c3 c4 c5 c6 c7 z0 z1 z2 z3 z4 z5 z6 z7; obtain ⟨⟨c0, c1, c2, c3, c4, c5, c6, c7⟩, z0, z1, z2, z3, z4, z5, z6, z7⟩ := hS2.facts; have hS3 := hS2.s0 K) | (go_at_call 67; (with_reducible refine (hr71 _).mono ?_); rintro e ur ⟨rfl, hu⟩; rw [hu]; clear hu ur) | (go_at_call 68; (with_reducible refine (hs _ hS3).mono ?_); rintro e u4 ⟨rfl, hS4⟩; clear c0 c1 c2 c3 c4 c5 c6 c7 z0 z1 z2 z3 z4 z5 z6 z7; obtain ⟨⟨c0, c1, c2, c3, c4, c5, c6, c7⟩, z0, z1, z2, z3, z4, z5, z6, z7⟩ := hS4.facts) | (go_at_call 67; (with_reducible refine (hr102 _).mono ?_); rintro e ur ⟨rfl, hu⟩; rw [hu]; clear hu ur) | (go_at_call 68; (with_reducible refine (hf _ hS4).mono ?_); rintro e u5 ⟨rfl, hS5⟩; clear c0 c1 c2 c3 c4 c5 c6 c7 z0 z1 z2 z3 z4 z5 z6 z7; obtain ⟨⟨c0, c1, c2, c3, c4, c5, c6, c7⟩, z0, z1, z2, z3, z4, z5, z6, z7⟩ := hS5.facts; have hS6 := hS5.s1 (G : Int)) | (go_at_call 67; (with_reducible refine (hr72 _).mono ?_); rintro e ur ⟨rfl, hu⟩; rw [hu]; clear hu ur) | (go_at_call 69; (with_reducible refine (hhr _).mono ?_); rintro e ur ⟨rfl, hu⟩; rw [hu]; clear hu ur) | (go_at_call 68; (with_reducible refine (hq _ hS6).mono ?_); rintro e u7 ⟨rfl, hS7⟩; clear c0 c1 c2 c3 c4 c5 c6 c7 z0 z1 z2 z3 z4 z5 z6 z7; obtain ⟨⟨c0, c1, c2, c3, c4, c5, c6, c7⟩, z0, z1, z2, z3, z4, z5, z6, z7⟩ := hS7.facts; have hS8 := hS7.s2 (Rd : Int)) | (go_at_call 70; (with_reducible refine (hir _).mono ?_); rintro e ur ⟨rfl, hu⟩; rw [hu]; clear hu ur) | (go_at_call 67; (with_reducible refine (hr73 _).mono ?_); rintro e ur ⟨rfl, hu⟩; rw [hu]; clear hu ur) | (go_at_call 71; (with_reducible refine (hhh _).mono ?_); rintro e ur ⟨rfl, hu⟩; rw [hu]; clear hu ur) | (go_at_call 74; (with_reducible refine (hhs _).mono ?_); rintro e ur ⟨rfl, hu⟩; rw [hu]; clear hu ur) | (go_at_call 73; (with_reducible refine (hto _ hS8).mono ?_); rintro e u9 ⟨a9, e9, rfl, hr9, hS9⟩) | (go_at_call 72; (with_reducible refine (hso _ _ _ hr9).mono ?_); rintro e u10 ⟨rfl, hb10⟩; have hS10 := hS9.below hb10; clear c0 c1 c2 c3 c4 c5 c6 c7 z0 z1 z2 z3 z4 z5 z6 z7; obtain ⟨⟨c0, c1, c2, c3, c4, c5, c6, c7⟩, z0, z1, z2, z3, z4, z5, z6, z7⟩ := hS10.facts; have hS11 := hS10.s3 M; unfold W4 at hS11) | (go_at_call 75; (with_reducible refine (hwi _).mono ?_); rintro e u12 ⟨rfl, hb12⟩; have hS12 := hS11.below hb12; clear c0 c1 c2 c3 c4 c5 c6 c7 z0 z1 z2 z3 z4 z5 z6 z7; obtain ⟨⟨c0, c1, c2, c3, c4, c5, c6, c7⟩, z0, z1, z2, z3, z4, z5, z6, z7⟩ := hS12.facts) | (go_at_call 67; (with_reducible refine (hr74 _).mono ?_); rintro e ur ⟨rfl, hu⟩; rw [hu]; clear hu ur))
 exact ⟨rfl, fdo_err rfl hS12.kb⟩
theorem fd15x {w : World} {p : Nat} {ad : Option Addr} {cap : Nat} {bs : List Nat} (h : Rdr w p ad cap bs 0) (n : Nat) (h1 : 2 ≤ bs.length) (hM : nmW bs 0 2 = 25971) (h2 : 3 ≤ bs.length) (K : Nat) (hK : nmW bs 2 1 = K) (hk4 : K ≠ 3) (h3 : 4 ≤ bs.length) (hSz : nmW bs 3 1 = n) (h4 : 5 ≤ bs.length) (G : Nat) (hG : nmW bs 4 1 = G) (hg1 : G < n) (h5 : 10 ≤ bs.length) (Rd : Nat) (hRd : nmW bs 5 5 = Rd) (hrd : 1 ≤ Rd ∧ Rd ≤ 1099511627775) (hk5 : K = 2) (hn1 : 1 ≤ n) (h6 : 10 + hsz n ≤ bs.length) (M : Nat) (hMs : vlS ((bs.drop 10).take (hsz n)) = M) (hw : wthB M n = true) (hn : n ≤ 100) (er : Int) (hW : rdW n bs (10 + hsz n) = .error er) : Calls Tryz.prog 37 #[.pointer (some ⟨p, 0, none⟩), .int .i64 (n : Int)] w (FdO p ad cap bs (.error er) w) := by
 have hS0 := sf_start h
 have hm := wghm (w := w) (p := p) (ad := ad) (cap := cap) hM (by omega)
 have hr70 := zrn 70
 have hk := wghk (w := w) (p := p) (ad := ad) (cap := cap) hK (by omega)
 have hr71 := zrn 71
 have q0 : decide ((K : Int) < 1) = false := decide_eq_false (by omega)
 have q1 : decide ((3 : Int) < (K : Int)) = false := decide_eq_false (by omega)
 have hs := wghs (w := w) (p := p) (ad := ad) (cap := cap) (K := K) hSz (by omega)
 have hr102 := zrn 102
 have hf := wghf (w := w) (p := p) (ad := ad) (cap := cap) (K := K) hG (by omega)
 have hr72 := zrn 72
 have q3 : decide (n ≤ G) = false := decide_eq_false (by omega)
 have hhr : ∀ w, Calls Tryz.prog 69 #[.int .i64 (K : Int)] w _ := hasRound_any K
 rw [decide_eq_true hk4] at hhr
 have hq := wghq (w := w) (p := p) (ad := ad) (cap := cap) (K := K) (G := G) hRd (by omega)
 have hir : ∀ w, Calls Tryz.prog 70 #[.int .i64 (Rd : Int)] w _ := isRound_any (Rd : Int)
 rw [decide_eq_true (by omega)] at hir
 have hr73 := zrn 73
 have hhh : ∀ w, Calls Tryz.prog 71 #[.int .i64 (K : Int)] w _ := hasHeard_any K
 rw [decide_eq_true hk5] at hhh
 clear hk5
 have hhs : ∀ w, Calls Tryz.prog 74 #[.int .i64 (n : Int)] w _ := heardSize_any n hn
 obtain ⟨Z, hZ⟩ : ∃ Z, hsz n = Z := ⟨_, rfl⟩
 have hZ0 : 0 < Z := by rw [← hZ]; unfold hsz; omega
 have hZ13 : Z ≤ 13 := by rw [← hZ]; exact hsz_le hn
 rw [hZ] at hhs
 have hto : ∀ W, SF w p ad cap bs 10 K (G : Int) (Rd : Int) 0 (.slice none 0 0) W → Calls Tryz.prog 73 #[.pointer (some ⟨p, 0, none⟩), .int .i64 (Z : Int)] W fun e W' => ∃ a c, e = .returned (.slice a Z c) ∧ RdBW W' a ((bs.drop 10).take Z) ∧ SF w p ad cap bs (10 + Z) K (G : Int) (Rd : Int) 0 (.slice none 0 0) W' := fun W h => (take_ok h.rr Z hZ0 (by omega)).mono (by rintro e W' ⟨a, c, rfl, _, hr, h1, h2⟩; exact ⟨a, c, rfl, hr, h.kbs h1 h2⟩)
 have hso : ∀ a c W, RdBW W a ((bs.drop 10).take Z) → Calls Tryz.prog 72 #[.slice a Z c] W fun e W' => e = .returned (.agg #[.int .u32 (wd M 0 : Nat), .int .u32 (wd M 1 : Nat), .int .u32 (wd M 2 : Nat), .int .u32 (wd M 3 : Nat)]) ∧ Below W.heap.size W W' := fun a c W hr => by
  have := setOf_any a c ((bs.drop 10).take Z) W hr ((h.byt.drop _).take _) (by rw [sub_len (by omega)]; omega)
  rw [sub_len (by omega), ← hZ, hMs] at this
  rw [← hZ]
  exact this
 have hM128 : M < S128 := by
  have := vlS_lt _ ((h.byt.drop 10).take (hsz n))
  rw [sub_len h6, hMs] at this
  exact Nat.lt_of_lt_of_le this (Nat.le_trans (Nat.pow_le_pow_right (n := 2) (by decide) (show 8 * hsz n ≤ 128 by omega)) (by decide))
 have hwi := within_any M hM128 (n : Int)
 simp only [sv] at hwi
 rw [hw] at hwi
 have hr74 := zrn 74
 rw [hZ] at hW
 clear hZ
 have hx : ∀ W, SF w p ad cap bs (10 + Z) K (G : Int) (Rd : Int) M (.slice none 0 0) W → Calls Tryz.prog 76 #[.pointer (some ⟨p, 0, none⟩), .int .i64 (n : Int)] W fun e W' => e = .panicked (rfu er) ∧ Kb p w W' := fun W h => SF.newsx h n hn er hW
 obtain ⟨⟨c0, c1, c2, c3, c4, c5, c6, c7⟩, z0, z1, z2, z3, z4, z5, z6, z7⟩ := hS0.facts
 go_enter Tryz.func37, Tryz.ntmps37
 go_wp2_with (first | (go_at_call 68; (with_reducible refine (hm _ hS0).mono ?_); rintro e u1 ⟨rfl, hS1⟩; clear c0 c1 c2 c3 c4 c5 c6 c7 z0 z1 z2 z3 z4 z5 z6 z7; obtain ⟨⟨c0, c1, c2, c3, c4, c5, c6, c7⟩, z0, z1, z2, z3, z4, z5, z6, z7⟩ := hS1.facts) | (go_at_call 67; (with_reducible refine (hr70 _).mono ?_); rintro e ur ⟨rfl, hu⟩; rw [hu]; clear hu ur) | (go_at_call 68; (with_reducible refine (hk _ hS1).mono ?_); rintro e u2 ⟨rfl, hS2⟩; clear c0 c1 c2 c3 c4 c5 c6 c7 z0 z1 z2 z3 z4 z5 z6 z7; obtain ⟨⟨c0, c1, c2, c3, c4, c5, c6, c7⟩, z0, z1, z2, z3, z4, z5, z6, z7⟩ := hS2.facts; have hS3 := hS2.s0 K) | (go_at_call 67; (with_reducible refine (hr71 _).mono ?_); rintro e ur ⟨rfl, hu⟩; rw [hu]; clear hu ur) | (go_at_call 68; (with_reducible refine (hs _ hS3).mono ?_); rintro e u4 ⟨rfl, hS4⟩; clear c0 c1 c2 c3 c4 c5 c6 c7 z0 z1 z2 z3 z4 z5 z6 z7; obtain ⟨⟨c0, c1, c2, c3, c4, c5, c6, c7⟩, z0, z1, z2, z3, z4, z5, z6, z7⟩ := hS4.facts) | (go_at_call 67; (with_reducible refine (hr102 _).mono ?_); rintro e ur ⟨rfl, hu⟩; rw [hu]; clear hu ur) | (go_at_call 68; (with_reducible refine (hf _ hS4).mono ?_); rintro e u5 ⟨rfl, hS5⟩; clear c0 c1 c2 c3 c4 c5 c6 c7 z0 z1 z2 z3 z4 z5 z6 z7; obtain ⟨⟨c0, c1, c2, c3, c4, c5, c6, c7⟩, z0, z1, z2, z3, z4, z5, z6, z7⟩ := hS5.facts; have hS6 := hS5.s1 (G : Int)) | (go_at_call 67; (with_reducible refine (hr72 _).mono ?_); rintro e ur ⟨rfl, hu⟩; rw [hu]; clear hu ur) | (go_at_call 69; (with_reducible refine (hhr _).mono ?_); rintro e ur ⟨rfl, hu⟩; rw [hu]; clear hu ur) | (go_at_call 68; (with_reducible refine (hq _ hS6).mono ?_); rintro e u7 ⟨rfl, hS7⟩; clear c0 c1 c2 c3 c4 c5 c6 c7 z0 z1 z2 z3 z4 z5 z6 z7; obtain ⟨⟨c0, c1, c2, c3, c4, c5, c6, c7⟩, z0, z1, z2, z3, z4, z5, z6, z7⟩ := hS7.facts; have hS8 := hS7.s2 (Rd : Int)) | (go_at_call 70; (with_reducible refine (hir _).mono ?_); rintro e ur ⟨rfl, hu⟩; rw [hu]; clear hu ur) | (go_at_call 67; (with_reducible refine (hr73 _).mono ?_); rintro e ur ⟨rfl, hu⟩; rw [hu]; clear hu ur) | (go_at_call 71; (with_reducible refine (hhh _).mono ?_); rintro e ur ⟨rfl, hu⟩; rw [hu]; clear hu ur) | (go_at_call 74; (with_reducible refine (hhs _).mono ?_); rintro e ur ⟨rfl, hu⟩; rw [hu]; clear hu ur) | (go_at_call 73; (with_reducible refine (hto _ hS8).mono ?_); rintro e u9 ⟨a9, e9, rfl, hr9, hS9⟩) | (go_at_call 72; (with_reducible refine (hso _ _ _ hr9).mono ?_); rintro e u10 ⟨rfl, hb10⟩; have hS10 := hS9.below hb10; clear c0 c1 c2 c3 c4 c5 c6 c7 z0 z1 z2 z3 z4 z5 z6 z7; obtain ⟨⟨c0, c1, c2, c3, c4, c5, c6, c7⟩, z0, z1, z2, z3, z4, z5, z6, z7⟩ := hS10.facts; have hS11 := hS10.s3 M; unfold W4 at hS11) | (go_at_call 75; (with_reducible refine (hwi _).mono ?_); rintro e u12 ⟨rfl, hb12⟩; have hS12 := hS11.below hb12; clear c0 c1 c2 c3 c4 c5 c6 c7 z0 z1 z2 z3 z4 z5 z6 z7; obtain ⟨⟨c0, c1, c2, c3, c4, c5, c6, c7⟩, z0, z1, z2, z3, z4, z5, z6, z7⟩ := hS12.facts) | (go_at_call 67; (with_reducible refine (hr74 _).mono ?_); rintro e ur ⟨rfl, hu⟩; rw [hu]; clear hu ur) | (go_at_call 76; (with_reducible refine (hx _ hS12).mono ?_); rintro e ux ⟨rfl, hkx⟩))
 exact ⟨rfl, fdo_err rfl hkx⟩
theorem fd15o {w : World} {p : Nat} {ad : Option Addr} {cap : Nat} {bs : List Nat} (h : Rdr w p ad cap bs 0) (n : Nat) (h1 : 2 ≤ bs.length) (hM : nmW bs 0 2 = 25971) (h2 : 3 ≤ bs.length) (K : Nat) (hK : nmW bs 2 1 = K) (hk4 : K ≠ 3) (h3 : 4 ≤ bs.length) (hSz : nmW bs 3 1 = n) (h4 : 5 ≤ bs.length) (G : Nat) (hG : nmW bs 4 1 = G) (hg1 : G < n) (h5 : 10 ≤ bs.length) (Rd : Nat) (hRd : nmW bs 5 5 = Rd) (hrd : 1 ≤ Rd ∧ Rd ≤ 1099511627775) (hk5 : K = 2) (hn1 : 1 ≤ n) (h6 : 10 + hsz n ≤ bs.length) (M : Nat) (hMs : vlS ((bs.drop 10).take (hsz n)) = M) (hw : wthB M n = true) (hn : n ≤ 100) (l : List (Int × Int × Int)) (j : Nat) (hW : rdW n bs (10 + hsz n) = .ok (l, j)) : Calls Tryz.prog 37 #[.pointer (some ⟨p, 0, none⟩), .int .i64 (n : Int)] w (FdO p ad cap bs (.ok ((K, G, Rd, M, l), j)) w) := by
 have hS0 := sf_start h
 have hm := wghm (w := w) (p := p) (ad := ad) (cap := cap) hM (by omega)
 have hr70 := zrn 70
 have hk := wghk (w := w) (p := p) (ad := ad) (cap := cap) hK (by omega)
 have hr71 := zrn 71
 have q0 : decide ((K : Int) < 1) = false := decide_eq_false (by omega)
 have q1 : decide ((3 : Int) < (K : Int)) = false := decide_eq_false (by omega)
 have hs := wghs (w := w) (p := p) (ad := ad) (cap := cap) (K := K) hSz (by omega)
 have hr102 := zrn 102
 have hf := wghf (w := w) (p := p) (ad := ad) (cap := cap) (K := K) hG (by omega)
 have hr72 := zrn 72
 have q3 : decide (n ≤ G) = false := decide_eq_false (by omega)
 have hhr : ∀ w, Calls Tryz.prog 69 #[.int .i64 (K : Int)] w _ := hasRound_any K
 rw [decide_eq_true hk4] at hhr
 have hq := wghq (w := w) (p := p) (ad := ad) (cap := cap) (K := K) (G := G) hRd (by omega)
 have hir : ∀ w, Calls Tryz.prog 70 #[.int .i64 (Rd : Int)] w _ := isRound_any (Rd : Int)
 rw [decide_eq_true (by omega)] at hir
 have hr73 := zrn 73
 have hhh : ∀ w, Calls Tryz.prog 71 #[.int .i64 (K : Int)] w _ := hasHeard_any K
 rw [decide_eq_true hk5] at hhh
 clear hk5
 have hhs : ∀ w, Calls Tryz.prog 74 #[.int .i64 (n : Int)] w _ := heardSize_any n hn
 obtain ⟨Z, hZ⟩ : ∃ Z, hsz n = Z := ⟨_, rfl⟩
 have hZ0 : 0 < Z := by rw [← hZ]; unfold hsz; omega
 have hZ13 : Z ≤ 13 := by rw [← hZ]; exact hsz_le hn
 rw [hZ] at hhs
 have hto : ∀ W, SF w p ad cap bs 10 K (G : Int) (Rd : Int) 0 (.slice none 0 0) W → Calls Tryz.prog 73 #[.pointer (some ⟨p, 0, none⟩), .int .i64 (Z : Int)] W fun e W' => ∃ a c, e = .returned (.slice a Z c) ∧ RdBW W' a ((bs.drop 10).take Z) ∧ SF w p ad cap bs (10 + Z) K (G : Int) (Rd : Int) 0 (.slice none 0 0) W' := fun W h => (take_ok h.rr Z hZ0 (by omega)).mono (by rintro e W' ⟨a, c, rfl, _, hr, h1, h2⟩; exact ⟨a, c, rfl, hr, h.kbs h1 h2⟩)
 have hso : ∀ a c W, RdBW W a ((bs.drop 10).take Z) → Calls Tryz.prog 72 #[.slice a Z c] W fun e W' => e = .returned (.agg #[.int .u32 (wd M 0 : Nat), .int .u32 (wd M 1 : Nat), .int .u32 (wd M 2 : Nat), .int .u32 (wd M 3 : Nat)]) ∧ Below W.heap.size W W' := fun a c W hr => by
  have := setOf_any a c ((bs.drop 10).take Z) W hr ((h.byt.drop _).take _) (by rw [sub_len (by omega)]; omega)
  rw [sub_len (by omega), ← hZ, hMs] at this
  rw [← hZ]
  exact this
 have hM128 : M < S128 := by
  have := vlS_lt _ ((h.byt.drop 10).take (hsz n))
  rw [sub_len h6, hMs] at this
  exact Nat.lt_of_lt_of_le this (Nat.le_trans (Nat.pow_le_pow_right (n := 2) (by decide) (show 8 * hsz n ≤ 128 by omega)) (by decide))
 have hwi := within_any M hM128 (n : Int)
 simp only [sv] at hwi
 rw [hw] at hwi
 have hr74 := zrn 74
 rw [hZ] at hW
 clear hZ
 have ho : ∀ W, SF w p ad cap bs (10 + Z) K (G : Int) (Rd : Int) M (.slice none 0 0) W → Calls Tryz.prog 76 #[.pointer (some ⟨p, 0, none⟩), .int .i64 (n : Int)] W fun e W' => ∃ a2 c2, e = .returned (.slice a2 l.length c2) ∧ W'.ownsRow (w.heap.size + 2) 65 3 (.slice a2 l.length c2) l.length (fl l) ∧ SF w p ad cap bs j K (G : Int) (Rd : Int) M (.slice none 0 0) W' := fun W h => SF.newso h n hn l j hW
 obtain ⟨⟨c0, c1, c2, c3, c4, c5, c6, c7⟩, z0, z1, z2, z3, z4, z5, z6, z7⟩ := hS0.facts
 go_enter Tryz.func37, Tryz.ntmps37
 go_wp2_with (first | (go_at_call 68; (with_reducible refine (hm _ hS0).mono ?_); rintro e u1 ⟨rfl, hS1⟩; clear c0 c1 c2 c3 c4 c5 c6 c7 z0 z1 z2 z3 z4 z5 z6 z7; obtain ⟨⟨c0, c1, c2, c3, c4, c5, c6, c7⟩, z0, z1, z2, z3, z4, z5, z6, z7⟩ := hS1.facts) | (go_at_call 67; (with_reducible refine (hr70 _).mono ?_); rintro e ur ⟨rfl, hu⟩; rw [hu]; clear hu ur) | (go_at_call 68; (with_reducible refine (hk _ hS1).mono ?_); rintro e u2 ⟨rfl, hS2⟩; clear c0 c1 c2 c3 c4 c5 c6 c7 z0 z1 z2 z3 z4 z5 z6 z7; obtain ⟨⟨c0, c1, c2, c3, c4, c5, c6, c7⟩, z0, z1, z2, z3, z4, z5, z6, z7⟩ := hS2.facts; have hS3 := hS2.s0 K) | (go_at_call 67; (with_reducible refine (hr71 _).mono ?_); rintro e ur ⟨rfl, hu⟩; rw [hu]; clear hu ur) | (go_at_call 68; (with_reducible refine (hs _ hS3).mono ?_); rintro e u4 ⟨rfl, hS4⟩; clear c0 c1 c2 c3 c4 c5 c6 c7 z0 z1 z2 z3 z4 z5 z6 z7; obtain ⟨⟨c0, c1, c2, c3, c4, c5, c6, c7⟩, z0, z1, z2, z3, z4, z5, z6, z7⟩ := hS4.facts) | (go_at_call 67; (with_reducible refine (hr102 _).mono ?_); rintro e ur ⟨rfl, hu⟩; rw [hu]; clear hu ur) | (go_at_call 68; (with_reducible refine (hf _ hS4).mono ?_); rintro e u5 ⟨rfl, hS5⟩; clear c0 c1 c2 c3 c4 c5 c6 c7 z0 z1 z2 z3 z4 z5 z6 z7; obtain ⟨⟨c0, c1, c2, c3, c4, c5, c6, c7⟩, z0, z1, z2, z3, z4, z5, z6, z7⟩ := hS5.facts; have hS6 := hS5.s1 (G : Int)) | (go_at_call 67; (with_reducible refine (hr72 _).mono ?_); rintro e ur ⟨rfl, hu⟩; rw [hu]; clear hu ur) | (go_at_call 69; (with_reducible refine (hhr _).mono ?_); rintro e ur ⟨rfl, hu⟩; rw [hu]; clear hu ur) | (go_at_call 68; (with_reducible refine (hq _ hS6).mono ?_); rintro e u7 ⟨rfl, hS7⟩; clear c0 c1 c2 c3 c4 c5 c6 c7 z0 z1 z2 z3 z4 z5 z6 z7; obtain ⟨⟨c0, c1, c2, c3, c4, c5, c6, c7⟩, z0, z1, z2, z3, z4, z5, z6, z7⟩ := hS7.facts; have hS8 := hS7.s2 (Rd : Int)) | (go_at_call 70; (with_reducible refine (hir _).mono ?_); rintro e ur ⟨rfl, hu⟩; rw [hu]; clear hu ur) | (go_at_call 67; (with_reducible refine (hr73 _).mono ?_); rintro e ur ⟨rfl, hu⟩; rw [hu]; clear hu ur) | (go_at_call 71; (with_reducible refine (hhh _).mono ?_); rintro e ur ⟨rfl, hu⟩; rw [hu]; clear hu ur) | (go_at_call 74; (with_reducible refine (hhs _).mono ?_); rintro e ur ⟨rfl, hu⟩; rw [hu]; clear hu ur) | (go_at_call 73; (with_reducible refine (hto _ hS8).mono ?_); rintro e u9 ⟨a9, e9, rfl, hr9, hS9⟩) | (go_at_call 72; (with_reducible refine (hso _ _ _ hr9).mono ?_); rintro e u10 ⟨rfl, hb10⟩; have hS10 := hS9.below hb10; clear c0 c1 c2 c3 c4 c5 c6 c7 z0 z1 z2 z3 z4 z5 z6 z7; obtain ⟨⟨c0, c1, c2, c3, c4, c5, c6, c7⟩, z0, z1, z2, z3, z4, z5, z6, z7⟩ := hS10.facts; have hS11 := hS10.s3 M; unfold W4 at hS11) | (go_at_call 75; (with_reducible refine (hwi _).mono ?_); rintro e u12 ⟨rfl, hb12⟩; have hS12 := hS11.below hb12; clear c0 c1 c2 c3 c4 c5 c6 c7 z0 z1 z2 z3 z4 z5 z6 z7; obtain ⟨⟨c0, c1, c2, c3, c4, c5, c6, c7⟩, z0, z1, z2, z3, z4, z5, z6, z7⟩ := hS12.facts) | (go_at_call 67; (with_reducible refine (hr74 _).mono ?_); rintro e ur ⟨rfl, hu⟩; rw [hu]; clear hu ur) | (go_at_call 76; (with_reducible refine (ho _ hS12).mono ?_); rintro e uz ⟨ax, cx, rfl, hox, hSz⟩; have hE := SF.end8 (fr := G) (rd := Rd) hSz hox; clear c0 c1 c2 c3 c4 c5 c6 c7 z0 z1 z2 z3 z4 z5 z6 z7; obtain ⟨⟨c0, c1, c2, c3, c4, c5, c6, c7⟩, z0, z1, z2, z3, z4, z5, z6, z7⟩ := hSz.facts; obtain ⟨d0, d1, d2, d3, d4, d5, d6, d7⟩ := hSz.f0.cells; have y0 := hSz.f0.thaw 0; have y1 := hSz.f0.thaw 1; have y2 := hSz.f0.thaw 2; have y3 := hSz.f0.thaw 3; have y4 := hSz.f0.thaw 4; have y5 := hSz.f0.thaw 5; have y6 := hSz.f0.thaw 6; have y7 := hSz.f0.thaw 7))
 exact retF rfl rfl rfl hE.1 hE.2
end Go.Proofs.YtekjhcnaabpfmaaGreatDoor
