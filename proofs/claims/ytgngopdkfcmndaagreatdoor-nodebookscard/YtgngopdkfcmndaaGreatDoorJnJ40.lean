import Derived.Test.YtgngopdkfcmndaaGreatDoorJnJ39
namespace Go.Proofs.YtgngopdkfcmndaaGreatDoor
set_option maxHeartbeats 40000000
set_option maxRecDepth 100000
set_option linter.unusedVariables false
open Go.RowKit Go.Shelf Go.Lib
def sgA (li ro ta : Int) (su he re : Nat) (v : Value) : Array Value := #[.bool true, .int .i64 li, .int .i64 ro, .int .i64 ta, .int .u32 (wd su 0 : Nat), .int .u32 (wd su 1 : Nat), .int .u32 (wd su 2 : Nat), .int .u32 (wd su 3 : Nat), .int .u32 (wd he 0 : Nat), .int .u32 (wd he 1 : Nat), .int .u32 (wd he 2 : Nat), .int .u32 (wd he 3 : Nat), .int .u32 (wd re 0 : Nat), .int .u32 (wd re 1 : Nat), .int .u32 (wd re 2 : Nat), .int .u32 (wd re 3 : Nat), v]
section
variable {w W V : World} {base x b : Nat} {A : NA} {s : Ns} {m : Nat} {ro : Int} {he re : Nat}
theorem RdW.op {ad : Option Addr} {l : List OpN} (h : RdW W ad l) {k : Nat} {o : OpN} (hk : l[k]? = some o) : OpOk W o := by
 obtain ⟨_, _, _, _, _, h⟩ := h k o hk
 exact h
theorem lgt_at {l : List OpN} (h : lgt l = true) {k : Nat} {o : OpN} (hk : l[k]? = some o) : o.nl.length ≤ 300 ∧ l.length ≤ 80 := by
 unfold lgt at h
 simp only [Bool.and_eq_true, decide_eq_true_eq] at h
 have := List.all_eq_true.1 h.2 o (List.mem_of_getElem? hk)
 unfold lgt1 at this
 simp only [Bool.and_eq_true, decide_eq_true_eq] at this
 exact ⟨this.2, h.1⟩
end
theorem tke_other {l : List N3} {x : N3} {i : Nat} (h : x.1.toNat ≠ i) : (tke l x)[i]? = l[i]? := by
 unfold tke
 split
 · unfold rse
   split
   · rw [List.getElem?_set, if_neg h]
   · rfl
 · rfl
theorem fold_other : ∀ (D : List N3) {l : List N3} {i : Nat}, (∀ y ∈ D, y.1.toNat ≠ i) → (D.foldl tke l)[i]? = l[i]?
 | [], _, _, _ => rfl
 | y :: D, l, i, h => by
  rw [List.foldl_cons, fold_other D (fun z hz => h z (List.mem_cons_of_mem _ hz)), tke_other (h y List.mem_cons_self)]
theorem fold_le : ∀ (D : List N3) {l : List N3}, Bok l → ∀ i, rkl l i ≤ rkl (D.foldl tke l) i
 | [], _, _, _ => Int.le_refl _
 | y :: D, l, hb, i => by
  rw [List.foldl_cons]
  refine Int.le_trans ?_ (fold_le D (tke_bok hb y) i)
  rw [tke_rk hb]
  exact upr_ge _ _ _ _
theorem abs_le {l : List N3} (hb : Bok l) (z : Int) (m : List N3) (i : Nat) : rkl l i ≤ rkl (abs l z m) i := by
 unfold abs
 split
 · exact mrg_ge hb _ i
 · exact Int.le_refl _
theorem fold_own {s : Nat} : ∀ (D : List N3) {l : List N3}, Bok l → (∀ y ∈ D, nm (s : Int) y = true) → ∀ {x : N3}, l[s]? = some x → (D.foldl tke l)[s]? = some x ∨ ∃ t, (D.foldl tke l)[s]? = some ((s : Int), t, 2) ∧ rkx x < rk t 2
 | [], _, _, _, _, h => .inl h
 | y :: D, l, hb, hn, x, h => by
  rw [List.foldl_cons]
  have hn' : ∀ z ∈ D, nm (s : Int) z = true := fun z hz => hn z (List.mem_cons_of_mem _ hz)
  by_cases e : y.1.toNat = s
  · by_cases hv : vlx l.length y = true
    · obtain ⟨v1, v2, v3, v4, v5⟩ := vlx_iff.1 hv
      by_cases hbt : bat l y = true
      · have e1 : tke l y = l.set s y := by unfold tke rse; rw [if_pos hv, if_pos hbt, e]
        have h1 : (tke l y)[s]? = some y := by rw [e1, List.getElem?_set]; simp; omega
        rw [bat_iff hb hv, e, decide_eq_true_eq, rkl_some h] at hbt
        obtain ⟨y1, y2, y3⟩ := y
        have q1 : y1 = (s : Int) := by dsimp only at e v3; omega
        subst q1
        have q3 : y3 = 2 := by
          have := hn _ List.mem_cons_self
          unfold nm at this
          have h5 := (rk_ok.1 v5).2.2
          rcases h5 with h5 | h5
          · exfalso; subst h5; simp at this
          · exact h5
        subst q3
        rcases fold_own D (tke_bok hb _) hn' h1 with h2 | ⟨t, h2, h3⟩
        · exact .inr ⟨y2, h2, hbt⟩
        · exact .inr ⟨t, h2, Int.lt_trans hbt h3⟩
      · have e1 : tke l y = l := by unfold tke rse; rw [if_pos hv, if_neg hbt]
        rw [e1]
        exact fold_own D hb hn' h
    · have e1 : tke l y = l := by unfold tke; rw [if_neg hv]
      rw [e1]
      exact fold_own D hb hn' h
  · exact fold_own D (tke_bok hb y) hn' ((tke_other e).trans h)
theorem abs_own {l : List N3} (hb : Bok l) {s : Nat} (m : List N3) {x : N3} (h : l[s]? = some x) : (abs l (s : Int) m)[s]? = some x ∨ ∃ t, (abs l (s : Int) m)[s]? = some ((s : Int), t, 2) ∧ rkx x < rk t 2 := by
 unfold abs
 split
 · rename_i hm
   have hm2 : (m.filter (nm (s : Int))).all (vlx l.length) = true := by
    rw [List.all_eq_true] at hm ⊢
    exact fun y hy => hm y (List.mem_filter.1 hy).1
   unfold mrg
   rw [if_pos hm2, fold_rse _ hm2]
   exact fold_own _ hb (fun y hy => (List.mem_filter.1 hy).2) h
 · exact .inl h
section
variable {s s' : Ns} {m : Nat} {o : OpN} {E : Int}
def Ow (s : Ns) : Prop := ∃ t k, s.l[s.s]? = some ((s.s : Int), t, k) ∧ ((k = 1 ∧ t = s.b.ta) ∨ (k = 2 ∧ t = 1048576))
theorem Ow.open (n f s : Nat) (hs : s < n) : Ow (s0 n f s) := by
 have e : (s0 n f s).l = bk0 n s 0 ∧ (s0 n f s).b.ta = 0 := by unfold s0 dOpen; rw [dO0]; exact ⟨rfl, rfl⟩
 refine ⟨0, 1, ?_, .inl ⟨rfl, e.2.symm⟩⟩
 rw [e.1]
 show (bk0 n s 0)[s]? = _
 rw [bk0_get 0 hs, if_pos rfl]
 rfl
theorem doubts_other (hv : Nv m s) (hk : kn (dCl2 (dCl1 s)).t = kn s.t) : ∀ y ∈ dDoubts (dCl2 (dCl1 s)), y.1.toNat ≠ s.s := by
 intro y hy e
 unfold dDoubts dbs at hy
 obtain ⟨i, hi, hf⟩ := List.mem_filterMap.1 hy
 have hyi : y.1 = (i : Int) := by
  unfold dbF at hf
  split at hf
  · split at hf
    · obtain rfl := Option.some.inj hf; rfl
    · cases hf
  · cases hf
 have his : i = s.s := by omega
 subst his
 unfold idsTo at hi
 have hb := (List.mem_filter.1 hi).2
 have h3 : (kn s.t).testBit s.s = true := by
  unfold kn
  rw [unis_bit hv.tv.reps, hv.rs]; rfl
 have hsn := hv.sn
 have hn2 := hv.n2
 have h4 : (dMiss (dCl2 (dCl1 s))).testBit s.s = false := by
  unfold dMiss
  rw [hk]
  unfold msN
  split
  · rw [testBit_cln]
    unfold dif
    rw [Nat.testBit_xor, Nat.testBit_and, h3]
    simp
  · simp
 have hb' : (cln (dMiss (dCl2 (dCl1 s)))).testBit s.s = true := hb
 rw [testBit_cln, h4] at hb'
 simp at hb'
theorem de_books (hv : Nv m s) (hm : m ≤ 500) {L : List N3} (hL : Bok L) (hll : L.length = s.n) {x : N3} (hx : s.l[s.s]? = some x) (hw : Ow s) (h : L[s.s]? = some x ∨ ∃ t, L[s.s]? = some ((s.s : Int), t, 2) ∧ rkx x < rk t 2) (hge : ∀ i, rkl s.l i ≤ rkl L i) : Ow (dDe { s with l := L }) ∧ ∀ i, rkl s.l i ≤ rkl (dDe { s with l := L }).l i := by
 have hn2 := hv.n2
 have hsn := hv.sn
 obtain ⟨j, hj, ho⟩ := hv.on
 have hl : (dDe { s with l := L }).l = (dDf L (s.s : Int) s.d s.b).l ∧ (dDe { s with l := L }).b = (dDf L (s.s : Int) s.d s.b).b ∧ (dDe { s with l := L }).s = s.s := by
   unfold dDe dDf1
   split <;> exact ⟨rfl, rfl, rfl⟩
 unfold Ow
 rw [hl.1, hl.2.1, hl.2.2]
 obtain ⟨t0, k0, h0, hc⟩ := hw
 obtain rfl := Option.some.inj (hx.symm.trans h0)
 have key : ∀ t k, L[s.s]? = some ((s.s : Int), t, k) → ((k = 1 ∧ t = s.b.ta) ∨ (k = 2 ∧ s.b.ta ≤ t ∧ t ≤ 1048576)) → (∃ t k, (dDf L (s.s : Int) s.d s.b).l[s.s]? = some ((s.s : Int), t, k) ∧ ((k = 1 ∧ t = (dDf L (s.s : Int) s.d s.b).b.ta) ∨ (k = 2 ∧ t = 1048576))) ∧ ∀ i, rkl s.l i ≤ rkl (dDf L (s.s : Int) s.d s.b).l i := by
   intro t k hLs hk
   have hd := dueN_in hLs
   dsimp only at hd
   by_cases hc2 : k = 2 ∧ t < 1048576
   · rw [if_pos hc2] at hd
     obtain ⟨rfl, ht⟩ := hc2
     have ht0 := ho.lv.ta
     have hb0 : s.b.ta ≤ t := by rcases hk with ⟨e, _⟩ | ⟨_, e, _⟩; exact absurd e (by decide); exact e
     have ht00 : 0 ≤ t := (rk_ok.1 (hL _ _ hLs).2).1
     obtain ⟨e0, j', _, _, _, eta, _⟩ := ho.raise (by omega) (t := t + 1) (by omega) (by omega)
     have ed : dDf L (s.s : Int) s.d s.b = ⟨((s.s : Int), t + 1, 1), true, 0, tke L ((s.s : Int), t + 1, 1), (dRa s.d s.b (t + 1)).d, (dRa s.d s.b (t + 1)).b⟩ := by
       unfold dDf
       rw [hd]
       dsimp only
       rw [if_pos e0]
     rw [ed]
     dsimp only
     refine ⟨⟨t + 1, 1, ?_, .inl ⟨rfl, by rw [eta]; omega⟩⟩, fun i => ?_⟩
     · have hvx : vlx L.length ((s.s : Int), t + 1, 1) = true := vlx_iff.2 ⟨by omega, by omega, by simp, by simp; omega, show rk (t + 1) 1 ≠ -1 from rk_ok.2 ⟨by omega, by omega, .inl rfl⟩⟩
       have hbt : bat L ((s.s : Int), t + 1, 1) = true := by
        rw [bat_iff hL hvx]
        refine decide_eq_true ?_
        show rkl L ((s.s : Int).toNat) < rk (t + 1) 1
        rw [Int.toNat_natCast, rkl_some hLs]
        show rk t 2 < rk (t + 1) 1
        rw [rk_s (by omega), rk_m (by omega)]
        omega
       unfold tke rse
       rw [if_pos hvx, if_pos hbt, List.getElem?_set]
       simp
       omega
     · refine Int.le_trans (hge i) ?_
       rw [tke_rk hL]
       exact upr_ge _ _ _ _
   · rw [if_neg hc2] at hd
     have ed : dDf L (s.s : Int) s.d s.b = ⟨(0, 0, 0), false, 0, L, s.d, s.b⟩ := by
       unfold dDf
       rw [hd]
     rw [ed]
     dsimp only
     refine ⟨⟨t, k, hLs, ?_⟩, hge⟩
     rcases hk with h1 | ⟨h1, h2, h3⟩
     · exact .inl h1
     · exact .inr ⟨h1, by omega⟩
 rcases h with h | ⟨t, h, hr⟩
 · refine key t0 k0 h ?_
   rcases hc with h1 | ⟨h1, h2⟩
   · exact .inl h1
   · have := ho.lv.ta
     obtain ⟨⟨m1, m2⟩, ⟨m3, m4⟩, m5, m6⟩ := ho.lv.may
     exact .inr ⟨h1, by omega, by omega⟩
 · have ht := rk_ok.1 (hL _ _ h).2
   dsimp only at ht
   refine key t 2 h (.inr ⟨rfl, ?_, ht.2.1⟩)
   unfold rkx at hr
   dsimp only at hr
   have hta := ho.lv.ta
   obtain ⟨⟨m1, m2⟩, ⟨m3, m4⟩, m5, m6⟩ := ho.lv.may
   rw [rk_s (by omega)] at hr
   rcases hc with ⟨h1, h2⟩ | ⟨h1, h2⟩
   · rw [h1, rk_m (by omega)] at hr
     omega
   · rw [h1, rk_s (by omega)] at hr
     omega
theorem DoR.books (h : DoR s o s' E) (hv : Nv m s) (hm : m ≤ 500) (hw : Ow s) : Ow s' ∧ s.b.ta ≤ s'.b.ta ∧ ∀ i, rkl s.l i ≤ rkl s'.l i := by
 rcases h with ⟨k1, rfl, rfl⟩ | ⟨k1, rfl | ⟨bs, hby, rfl⟩⟩
 · unfold dPoll
   split
   · obtain ⟨_, _, _, _, _, _, _, c4, _, c6⟩ := hv.close (by omega)
     have hl : (dCl s).l = (dDoubts (dCl2 (dCl1 s))).foldl tke s.l := stDb_l _ _
     have hk : kn (dCl2 (dCl1 s)).t = kn s.t := rfl
     obtain ⟨t, k, h1, h2⟩ := hw
     refine ⟨⟨t, k, ?_, ?_⟩, ?_, fun i => ?_⟩
     · show (dCl s).l[(dCl s).s]? = some (((dCl s).s : Int), t, k)
       rw [c6, hl, fold_other _ (doubts_other hv hk)]
       exact h1
     · show (k = 1 ∧ t = (dCl s).b.ta) ∨ _
       rw [c4]
       exact h2
     · show s.b.ta ≤ (dCl s).b.ta
       rw [c4]; exact Int.le_refl _
     · show _ ≤ rkl (dCl s).l i
       rw [hl]
       exact fold_le _ hv.bok i
   · exact ⟨hw, Int.le_refl _, fun i => Int.le_refl _⟩
 · exact ⟨hw, Int.le_refl _, fun i => Int.le_refl _⟩
 · have hta := (hv.hear hm bs hby).2.2.2.2.1
   refine (and_left_comm.1 ⟨hta, ?_⟩)
   unfold dHear
   split
   · exact ⟨hw, fun i => Int.le_refl _⟩
   · rename_i kd fr rd N l hd
     have hsn := hv.sn
     have hln := hv.len
     obtain ⟨x, hx⟩ : ∃ x, s.l[s.s]? = some x := ⟨_, List.getElem?_eq_getElem (by omega)⟩
     have main := de_books hv hm (abs_bok hv.bok (s.s : Int) l) ((abs_len hv.bok _ _).trans hln) hx hw (abs_own hv.bok l hx) (abs_le hv.bok _ l)
     split
     · exact ⟨hw, fun i => Int.le_refl _⟩
     · split
       · exact main
       · split
         · exact main
         · exact main
end
section
variable {w W V : World} {base x b : Nat} {A A' : NA} {s : Ns} {m : Nat}
def BW (W : World) (b : Nat) (ta : Int) (su : Nat) (g n c : Nat) : Prop := ∃ li ro he re, W.heap[b]? = some (.cells (sgA li ro ta su he re (.slice (some ⟨g, 0, none⟩) n c)) 36 (0, 0))
theorem BW.lt {ta : Int} {su g n c : Nat} (h : BW W b ta su g n c) : b < W.heap.size := by obtain ⟨_, _, _, _, h⟩ := h; exact zla h
theorem BW.same {ta : Int} {su g n c : Nat} (h : BW W b ta su g n c) (e : V.heap[b]? = W.heap[b]?) : BW V b ta su g n c := by obtain ⟨a1, a2, a3, a4, h⟩ := h; exact ⟨a1, a2, a3, a4, e.trans h⟩
theorem BW.carry {ta : Int} {su g n c : Nat} (h : BW W b ta su g n c) (hb : Below W.heap.size W V) : BW V b ta su g n c := h.same (hb.block _ h.lt)
theorem BW.c {ta : Int} {su g n c : Nat} (h : BW W b ta su g n c) : W.cell? ⟨b, 3, none⟩ = some (.int .i64 ta) ∧ (W.cell? ⟨b, 4, none⟩ = some (.int .u32 (wd su 0 : Nat)) ∧ W.cell? ⟨b, 5, none⟩ = some (.int .u32 (wd su 1 : Nat)) ∧ W.cell? ⟨b, 6, none⟩ = some (.int .u32 (wd su 2 : Nat)) ∧ W.cell? ⟨b, 7, none⟩ = some (.int .u32 (wd su 3 : Nat))) ∧ W.cell? ⟨b, 16, none⟩ = some (.slice (some ⟨g, 0, none⟩) n c) := by
 obtain ⟨_, _, _, _, h⟩ := h
 exact ⟨(zca h 3).trans rfl, ⟨(zca h 4).trans rfl, (zca h 5).trans rfl, (zca h 6).trans rfl, (zca h 7).trans rfl⟩, (zca h 16).trans rfl⟩
theorem BW.mv {ta : Int} {su g n c : Nat} (h : BW W b ta su g n c) (hb : ¬ nown x A b) (m : Mv x A A' W V) : BW V b ta su g n c := h.same (m.block b h.lt hb)
theorem Mv.not {k : Nat} (m : Mv x A A' W V) (h : ¬ nown x A k) (hk : k < W.heap.size) : ¬ nown x A' k := fun e => by
 rcases m.own k e with h1 | h1
 · exact h h1
 · omega
theorem RdN.mvN {g : Nat} {l : List N3} (h : RdN W (some ⟨g, 0, none⟩) l) (hg : ¬ nown x A g) (m : Mv x A A' W V) : RdN V (some ⟨g, 0, none⟩) l := h.mvY m (fun q e => by obtain rfl := Option.some.inj e; exact hg)
theorem sight_bk {ta : Int} {su n : Nat} (h : Nd w base x A s) (hv : Nv m s) (hta : s.b.ta = ta) (hsu : sus s.l = su) (hn : s.n = n) :
   Calls Tryz.prog 9 #[.pointer (some ⟨x, 0, none⟩)] w fun r w' => ∃ li ro he re g c, r = .returned (.agg (sgA li ro ta su he re (.slice (some ⟨g, 0, none⟩) n c))) ∧ RdN w' (some ⟨g, 0, none⟩) s.l ∧ w.heap.size ≤ g ∧ g < w'.heap.size ∧ Below w.heap.size w w' := by
 have h1 := hv.len
 have h2 := hv.n1
 have h3 := hv.n2
 refine (sight_any h (by omega) (by omega) hv.bok).mono ?_
 rintro r w' ⟨a, c, rfl, hrow, hb⟩
 have hrd := RdN.ofRow hrow
 rcases own_form hrow with ⟨_, e2⟩ | ⟨g, c', e1, g1, g2, _⟩
 · omega
 · obtain ⟨rfl, _⟩ : a = some ⟨g, 0, none⟩ ∧ c = c' := by simpa using e1
   subst hta hsu hn
   rw [h1]
   exact ⟨_, _, _, _, g, c, rfl, hrd, g1, g2, hb⟩
end
attribute [local go_sem] Oper.semAt_some
theorem undSi : Tryz.prog.underlying 36 = some (.struct ((match Tryz.prog.underlying 36 with | some (.struct f) => f | _ => #[]))) := by kernel_rfl
theorem field_sg (W : World) (B : Nat) : (Instr.fieldAt 36 (.pointer (some ⟨B, 0, none⟩)) 7).run Tryz.prog W = .ok (.pointer (some ⟨B, 16, none⟩)) W ∧ (Instr.fieldAt 36 (.pointer (some ⟨B, 0, none⟩)) 4).run Tryz.prog W = .ok (.pointer (some ⟨B, 4, none⟩)) W := ⟨by kernel_rfl, by kernel_rfl⟩
theorem load_nl0 {W : World} {B o n c : Nat} {a : Option Addr} (h : W.cell? ⟨B, o, none⟩ = some (.slice a n c)) : (Instr.loadAt 34 (.pointer (some ⟨B, o, none⟩))).run Tryz.prog W = .ok (.slice a n c) W := by go_simp
theorem fld_nn (W : World) (B o : Nat) : (Instr.fieldAt 46 (.pointer (some ⟨B, o, none⟩)) 0).run Tryz.prog W = .ok (.pointer (some ⟨B, o, none⟩)) W ∧ (Instr.fieldAt 46 (.pointer (some ⟨B, o, none⟩)) 2).run Tryz.prog W = .ok (.pointer (some ⟨B, o + 2, none⟩)) W := ⟨by kernel_rfl, by kernel_rfl⟩
theorem load_nkd {W : World} {b off : Nat} {l : List N3} (h : NtsAt W b off l) {k : Nat} {o t q : Int} (hx : l[k]? = some (o, t, q)) : (Instr.loadAt 3 (.pointer (some ⟨b, off + k * 3 + 2, none⟩))).run Tryz.prog W = .ok (.int .i64 q) W := by
 obtain ⟨c0, c1, c2⟩ := h k _ hx
 go_simp
theorem load_su {W : World} {B su : Nat} (h : W.cell? ⟨B, 4, none⟩ = some (.int .u32 (wd su 0 : Nat)) ∧ W.cell? ⟨B, 5, none⟩ = some (.int .u32 (wd su 1 : Nat)) ∧ W.cell? ⟨B, 6, none⟩ = some (.int .u32 (wd su 2 : Nat)) ∧ W.cell? ⟨B, 7, none⟩ = some (.int .u32 (wd su 3 : Nat))) : (Instr.loadAt 33 (.pointer (some ⟨B, 4, none⟩))).run Tryz.prog W = .ok (sv su) W := by
 obtain ⟨h0, h1, h2, h3⟩ := h
 unfold sv
 go_simp
theorem bneq_self {x y : Operand} {w : World} (a : Bool) : binRun Tryz.prog .neq 4 x y (.bool a) (.bool a) w = .ok (.bool false) w := by cases a <;> kernel_rfl
theorem bin_eqd {P : Program} {t : TypeId} {x y : Operand} {w : World} (k : IntKind) (a b : Int) : binRun P .eql t x y (.int k a) (.int k b) w = .ok (.bool (decide (a = b))) w := by
 rw [bin_eql0]
 by_cases h : a = b <;> simp [h]
theorem bt_no {l l' : List N3} {k : Nat} {o t q o' t' q' : Int} (hx : l[k]? = some (o, t, q)) (hy : l'[k]? = some (o', t', q')) (h : rkl l k ≤ rkl l' k) : bt o t q o' t' q' = false := by
 rw [rkl_some hx, rkl_some hy] at h
 unfold bt
 refine decide_eq_false ?_
 rintro ⟨_, _, _, h4⟩
 unfold rkx at h
 dsimp only at h
 omega
theorem has_su {l : List N3} (hb : Bok l) {k : Nat} (hk : k < 100) {o t q : Int} (hx : l[k]? = some (o, t, q)) : hasB (sus l) (k : Int) = decide (q = 2) := by
 unfold hasB
 rw [Int.toNat_natCast, sus_bit hb hx]
 simp
 omega
theorem RdN.nts {W : World} {g : Nat} {l : List N3} (h : RdN W (some ⟨g, 0, none⟩) l) (hl : l ≠ []) : g < W.heap.size ∧ NtsAt W g 0 l := by
 obtain ⟨b, off, e, h1, h2⟩ := h hl
 obtain ⟨rfl, rfl⟩ : g = b ∧ 0 = off := by simpa using e
 exact ⟨h1, h2⟩
section
variable {W V : World} {base x B : Nat} {A : NA} {s : Ns}
theorem Nd.sg {c : Array Value} {z : Nat × Nat} (h : Nd W base x A s) (hB : W.heap[B]? = some (.cells c 36 z)) (hV : ∀ k, k < W.heap.size → ¬ (k = B) → V.heap[k]? = W.heap[k]?) : Nd V base x A s :=
 ⟨h.objS (σ := (· = B)) hV (nty h.obj hB (by decide)), h.btS (σ := (· = B)) hV (nty h.bt hB (by decide)), h.dkS (σ := (· = B)) hV (nty h.dk.obj hB (by decide)), h.bkS (σ := (· = B)) hV (nty h.bk.obj hB (by decide)) (nty h.bk.row hB (by decide)), h.taS (σ := (· = B)) hV (nty h.ta.obj hB (by decide)) (fun k e e2 => h.T hB (by decide) (e2 ▸ e)), h.pastS (σ := (· = B)) hV (fun k e e2 => h.E hB (by decide) (e2 ▸ e)), h.xb, h.qb, h.pb, h.kb, h.gb⟩
theorem RdN.sg {g : Nat} {l : List N3} (h : RdN W (some ⟨g, 0, none⟩) l) (hg : g ≠ B) (cs : Array Value) : RdN (W.setRow B cs) (some ⟨g, 0, none⟩) l := by
 intro hl
 obtain ⟨h1, h2⟩ := h.nts hl
 have hb : (W.setRow B cs).heap[g]? = W.heap[g]? := setRow_other hg
 refine ⟨g, 0, rfl, ?_, fun k x hk => ?_⟩
 · rw [size_setRow]; exact h1
 · have := h2 k x hk
   exact ⟨(World.cell?_of_block (w := W) (a := ⟨g, _, none⟩) hb).trans this.1, (World.cell?_of_block (w := W) (a := ⟨g, _, none⟩) hb).trans this.2.1, (World.cell?_of_block (w := W) (a := ⟨g, _, none⟩) hb).trans this.2.2⟩
end
end Go.Proofs.YtgngopdkfcmndaaGreatDoor
