import Derived.Test.YtekjhcnaabpfmaaGreatDoorJnJ41
import Derived.Test.YtekjhcnaabpfmaaGreatDoorJnJ38
set_option maxHeartbeats 40000000
set_option maxRecDepth 100000
set_option linter.unusedVariables false
namespace Go.Proofs.YtekjhcnaabpfmaaGreatDoor
open Go.RowKit Go.Shelf Go.Lib
attribute [local go_sem] Oper.semAt_some
theorem field_sg (W : World) (B : Nat) : (Instr.fieldAt 42 (.pointer (some ⟨B, 0, none⟩)) 7).run Tryz.prog W = .ok (.pointer (some ⟨B, 16, none⟩)) W ∧ (Instr.fieldAt 42 (.pointer (some ⟨B, 0, none⟩)) 4).run Tryz.prog W = .ok (.pointer (some ⟨B, 4, none⟩)) W := ⟨by kernel_rfl, by kernel_rfl⟩
theorem load_nl0 {W : World} {B o n c : Nat} {a : Option Addr} (h : W.cell? ⟨B, o, none⟩ = some (.slice a n c)) : (Instr.loadAt 36 (.pointer (some ⟨B, o, none⟩))).run Tryz.prog W = .ok (.slice a n c) W := by go_simp
theorem RdN.nts {W : World} {g : Nat} {l : List N3} (h : RdN W (some ⟨g, 0, none⟩) l) (hl : l ≠ []) : g < W.heap.size ∧ NtsAt W g 0 l := by
 obtain ⟨b, off, e, h1, h2⟩ := h hl
 obtain ⟨rfl, rfl⟩ : g = b ∧ 0 = off := by simpa using e
 exact ⟨h1, h2⟩
section
variable {W V : World} {base x B : Nat} {A : NA} {s : Ns}
end
end Go.Proofs.YtekjhcnaabpfmaaGreatDoor
namespace Go.Proofs.YtekjhcnaabpfmaaGreatDoor
open Go.RowKit Go.Shelf Go.Lib
attribute [local go_sem] Oper.semAt_some
section
variable {w W V : World} {base x b : Nat} {A A' : NA} {s : Ns} {m : Nat}
theorem Outs.get {v : Value} {l : List OE} {L : List (Int × List Nat)} (h : Outs W b v l ∧ Outs.say l = L) {k : Nat} {t : Int} {D : List Nat} (hk : L[k]? = some (t, D)) : ∃ g c a c2, v = .slice (some ⟨g, 0, none⟩) L.length c ∧ W.cell? ⟨g, k * 2, none⟩ = some (.int .i64 t) ∧ W.cell? ⟨g, k * 2 + 1, none⟩ = some (.slice a D.length c2) ∧ RdBW W a D ∧ D.length ≤ c2 ∧ g < W.heap.size := by
 obtain ⟨ho, rfl⟩ := h
 have hlen : (Outs.say l).length = l.length := by unfold Outs.say; simp
 obtain ⟨o, hx, hy⟩ : ∃ o, l[k]? = some o ∧ (o.to, o.L) = (t, D) := by
   unfold Outs.say at hk
   rw [List.getElem?_map] at hk
   cases hq : l[k]? with
   | none => rw [hq] at hk; simp at hk
   | some o => rw [hq] at hk; exact ⟨o, rfl, by simpa using hk⟩
 obtain ⟨rfl, rfl⟩ : o.to = t ∧ o.L = D := by simpa using hy
 have hkl : k < l.length := (List.getElem?_eq_some_iff.1 hx).1
 rw [hlen]
 rcases own_form ho.row with ⟨_, e⟩ | ⟨g, c, rfl, _, hgl, _⟩
 · omega
 obtain ⟨c0, c1⟩ := ho.at hx
 have hd := ho.dat o (List.mem_of_getElem? hx)
 obtain ⟨ad, cp, e1, hr⟩ := RdBW.own hd
 simp only [Value.slice.injEq] at e1
 obtain ⟨rfl, _, rfl⟩ := e1
 refine ⟨g, c, _, _, rfl, c0, c1, hr, ?_, hgl⟩
 rcases own_form hd with ⟨e, e2⟩ | ⟨g2, c2, e, _, _, h3, _⟩
 · omega
 · simp only [Value.slice.injEq] at e
   omega
end
def nwc (l : List N3) (j : Nat) : Nat := ((l.take j).filter pNew).length
theorem nwc_le (l : List N3) (j : Nat) : nwc l j ≤ j := by
 unfold nwc
 exact Nat.le_trans (List.length_filter_le _ _) (by rw [List.length_take]; omega)
theorem pNew_no {o t q : Int} (h : t = 0 ∧ q = 1) : pNew (o, t, q) = false := by obtain ⟨rfl, rfl⟩ := h; simp [pNew]
theorem pNew_yes {o t q : Int} (h : ¬ (t = 0 ∧ q = 1)) : pNew (o, t, q) = true := by simp [pNew]; omega
theorem sg_c {W : World} {B : Nat} {li ro ta : Int} {su he re : Nat} {v : Value} (h : W.heap[B]? = some (.cells (sgA li ro ta su he re v) 42 (0, 0))) : W.cell? ⟨B, 2, none⟩ = some (.int .i64 ro) ∧ W.cell? ⟨B, 16, none⟩ = some v := ⟨(zca h 2).trans rfl, (zca h 16).trans rfl⟩
end Go.Proofs.YtekjhcnaabpfmaaGreatDoor
namespace Go.Proofs.YtekjhcnaabpfmaaGreatDoor
open Go.RowKit Go.Shelf Go.Lib
section
variable {w : World} {base x : Nat} {A : NA} {s : Ns} {m : Nat}
theorem hear_que (h : Nd w base x A s) (hv : Nv m s) (hm : m ≤ 400) (hEn : Env w) (hbs : 2 < base) {ad : Option Addr} {cap fr rd : Nat} {l : List N3} (hf : flt 1 (s.n : Int) (fr : Int) (rd : Int) 0 l = 0) (hfs : ¬ (fr : Int) = (s.s : Int)) (hr : RdBW w ad (byt7 1 s.n fr rd 0 l)) (hc : (byt7 1 s.n fr rd 0 l).length ≤ cap) :
  Calls Tryz.prog 14 #[.pointer (some ⟨x, 0, none⟩), .slice ad (byt7 1 s.n fr rd 0 l).length cap] w fun r w' => ∃ a c lO A' S2, r = .returned (.tuple #[.slice a 1 c, .int .i64 0]) ∧ Hid (Outs w' w.heap.size (.slice a 1 c) lO ∧ Outs.say lO = [((fr : Int), dRepB S2 (rd : Int))]) ∧ Hid (Nv (m + 1) S2) ∧ Hid (S2.n = s.n ∧ S2.s = s.s) ∧ Hid (Nd w' base x A' S2) ∧ Mv x A A' w w' := by
 have hd : dec (s.n : Int) (byt7 1 s.n fr rd 0 l) = .ok (1, fr, rd, 0, l) := dec_of (by decide) hf (fun e => by cases e) (fun _ => rfl)
 have hby := byt7_byt 1 s.n fr rd 0 l
 obtain ⟨g1, _, _, _, _, g6, g7, _⟩ := hv.hear (by omega) _ hby
 refine (hear_any h hv (by omega) hEn hbs hr hby hc).mono ?_
 rintro r w' ⟨v, lO, A', rfl, ho, hs, hn, hM⟩
 obtain ⟨e1, e2⟩ : (dHear s (byt7 1 s.n fr rd 0 l)).2.1 = [((fr : Int), dRepB (dHear s (byt7 1 s.n fr rd 0 l)).1 (rd : Int))] ∧ (dHear s (byt7 1 s.n fr rd 0 l)).2.2 = 0 := by
  unfold dHear
  rw [hd]
  dsimp only
  rw [if_neg hfs, if_pos rfl]
  exact ⟨rfl, rfl⟩
 rw [e1] at hs
 have hln : lO.length = 1 := by
  have := congrArg List.length hs
  unfold Outs.say at this
  simpa using this
 obtain ⟨a, c, rfl⟩ : ∃ a c, v = .slice a 1 c := by
  rcases own_form ho.row with ⟨_, e⟩ | ⟨g, c, e, _⟩
  · omega
  · exact ⟨_, c, by rw [e, hln]⟩
 rw [e2]
 exact ⟨a, c, lO, A', (dHear s (byt7 1 s.n fr rd 0 l)).1, rfl, ⟨ho, hs⟩, g1, ⟨g6, g7⟩, hn, hM⟩
theorem hear_els (h : Nd w base x A s) (hv : Nv m s) (hm : m ≤ 400) (hEn : Env w) (hbs : 2 < base) {ad : Option Addr} {cap kd fr rd N : Nat} {l : List N3} (hk : kd = 2 ∨ kd = 3) (h3 : kd = 3 → rd = 0) (h2 : kd ≠ 2 → N = 0) (hf : flt kd (s.n : Int) (fr : Int) (rd : Int) N l = 0) (hfs : ¬ (fr : Int) = (s.s : Int)) (hr : RdBW w ad (byt7 kd s.n fr rd N l)) (hc : (byt7 kd s.n fr rd N l).length ≤ cap) :
  Calls Tryz.prog 14 #[.pointer (some ⟨x, 0, none⟩), .slice ad (byt7 kd s.n fr rd N l).length cap] w fun r w' => ∃ a c A' S2, r = .returned (.tuple #[.slice a 0 c, .int .i64 0]) ∧ Hid (Nv (m + 1) S2) ∧ Hid (S2.n = s.n ∧ S2.s = s.s) ∧ Hid (Nd w' base x A' S2) ∧ Mv x A A' w w' := by
 have hd : dec (s.n : Int) (byt7 kd s.n fr rd N l) = .ok (kd, fr, rd, N, l) := dec_of (by omega) hf h3 h2
 have hby := byt7_byt kd s.n fr rd N l
 obtain ⟨g1, _, _, _, _, g6, g7, _⟩ := hv.hear (by omega) _ hby
 refine (hear_any h hv (by omega) hEn hbs hr hby hc).mono ?_
 rintro r w' ⟨v, lO, A', rfl, ho, hs, hn, hM⟩
 obtain ⟨e1, e2⟩ : (dHear s (byt7 kd s.n fr rd N l)).2.1 = [] ∧ (dHear s (byt7 kd s.n fr rd N l)).2.2 = 0 := by
  unfold dHear
  rw [hd]
  dsimp only
  rw [if_neg hfs, if_neg (by omega)]
  split <;> exact ⟨rfl, rfl⟩
 rw [e1] at hs
 obtain rfl : lO = [] := by simpa [Outs.say] using hs
 obtain ⟨a, c, rfl⟩ : ∃ a c, v = .slice a 0 c := by
  rcases own_form ho.row with ⟨rfl, _⟩ | ⟨g, c, rfl, _⟩
  · exact ⟨none, 0, rfl⟩
  · exact ⟨_, c, rfl⟩
 rw [e2]
 exact ⟨a, c, A', (dHear s (byt7 kd s.n fr rd N l)).1, rfl, g1, ⟨g6, g7⟩, hn, hM⟩
end
attribute [local go_sem] Oper.semAt_some
theorem undNt : Tryz.prog.underlying 38 = some (.struct ((match Tryz.prog.underlying 38 with | some (.struct f) => f | _ => #[]))) := by kernel_rfl
theorem infoNt : (Tryz.prog.info? 38).map (·.size) = some 8 := by kernel_rfl
theorem infoRp : (Tryz.prog.info? 62).map (·.size) = some 7 := by kernel_rfl
theorem idx_o0 (g c : Nat) (W : World) : (Instr.indexAt 50 (.slice (some ⟨g, 0, none⟩) 1 c) (.int .i64 0)).run Tryz.prog W = .ok (.pointer (some ⟨g, 0, none⟩)) W := by go_simp
theorem fld_o0 (g : Nat) (W : World) : (Instr.fieldAt 60 (.pointer (some ⟨g, 0, none⟩)) 0).run Tryz.prog W = .ok (.pointer (some ⟨g, 0, none⟩)) W := by kernel_rfl
theorem fld_nt1 (g : Nat) (W : World) : (Instr.fieldAt 38 (.pointer (some ⟨g, 0, none⟩)) 1).run Tryz.prog W = .ok (.pointer (some ⟨g, 1, none⟩)) W := by kernel_rfl
theorem neqn_t {x y : Operand} {w : World} {o t k : Int} (h : ¬ (t = 0 ∧ k = 1)) : binRun Tryz.prog .neq 65 x y (nt o t k) (nt o 0 1) w = .ok (.bool true) w := (bin_neqn _ _ _ _ _ _).trans (by simp; omega)
theorem neqn_s {x y : Operand} {w : World} {o t k : Int} (h : t = 0 ∧ k = 1) : binRun Tryz.prog .neq 65 x y (nt o t k) (nt o 0 1) w = .ok (.bool false) w := (bin_neqn _ _ _ _ _ _).trans (by simp; omega)
theorem BO.ok {kd : Nat} {n fr rd N : Nat} {l : List (Int × Int × Int)} {w w' : World} {e : Ending} (h : BO kd (n : Int) (fr : Int) (rd : Int) N l w e w') (hf : flt kd (n : Int) (fr : Int) (rd : Int) N l = 0) : ∃ a c, e = .returned (.tuple #[.slice a (byt7 kd n fr rd N l).length c, .int .i64 0]) ∧ Hid (RdBW w' a (byt7 kd n fr rd N l) ∧ (byt7 kd n fr rd N l).length ≤ c) ∧ Below w.heap.size w w' := by
 obtain ⟨b, rfl, ho, hb⟩ := h
 have e : fb7 kd (n : Int) (fr : Int) (rd : Int) N l = byt7 kd n fr rd N l := by rw [fb7, if_pos hf]; rfl
 rw [e] at ho
 obtain ⟨a, c, rfl⟩ := own_sl ho
 rw [hf]
 exact ⟨a, c, rfl, rd_row ho.out, hb⟩
def nws (l : List N3) (j : Nat) : List N3 := (l.take j).filter pNew
theorem nws_all {l : List N3} {j : Nat} (h : l.length ≤ j) : nws l j = l.filter pNew := by unfold nws; rw [List.take_of_length_le h]
theorem nws_no {l : List N3} {j : Nat} {x : N3} (h : l[j]? = some x) (hp : pNew x = false) : nws l (j + 1) = nws l j := by
 unfold nws
 rw [List.take_add_one, h]
 simp [hp]
theorem nws_yes {l : List N3} {j : Nat} {x : N3} (h : l[j]? = some x) (hp : pNew x = true) : nws l (j + 1) = nws l j ++ [x] := by
 unfold nws
 rw [List.take_add_one, h]
 simp [hp]
theorem nws_len (l : List N3) (j : Nat) : (nws l j).length ≤ j := nwc_le l j
end Go.Proofs.YtekjhcnaabpfmaaGreatDoor
