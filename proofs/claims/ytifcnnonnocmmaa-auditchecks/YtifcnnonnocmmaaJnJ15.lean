import Derived.Test.YtifcnnonnocmmaaJnJ13
import Derived.Test.YtifcnnonnocmmaaJnJ14
set_option maxHeartbeats 40000000
set_option maxRecDepth 100000
set_option linter.unusedVariables false
namespace Go.Proofs.Ytifcnnonnocmmaa
open Go.RowKit Go.Shelf Go.Lib
attribute [local go_sem] Oper.semAt_some
theorem faD0 (w : World) (b o : Nat) : (Instr.fieldAt 50 (.pointer (some ⟨b, o, none⟩)) 0).run Try.prog w = .ok (.pointer (some ⟨b, o, none⟩)) w := by go_simp
theorem faD1 (w : World) (b o : Nat) : (Instr.fieldAt 50 (.pointer (some ⟨b, o, none⟩)) 1).run Try.prog w = .ok (.pointer (some ⟨b, o + 1, none⟩)) w := by go_simp
theorem faD2 (w : World) (b o : Nat) : (Instr.fieldAt 50 (.pointer (some ⟨b, o, none⟩)) 2).run Try.prog w = .ok (.pointer (some ⟨b, o + 2, none⟩)) w := by go_simp
theorem faD3 (w : World) (b o : Nat) : (Instr.fieldAt 50 (.pointer (some ⟨b, o, none⟩)) 3).run Try.prog w = .ok (.pointer (some ⟨b, o + 602, none⟩)) w := by go_simp
theorem faD4 (w : World) (b o : Nat) : (Instr.fieldAt 50 (.pointer (some ⟨b, o, none⟩)) 4).run Try.prog w = .ok (.pointer (some ⟨b, o + 603, none⟩)) w := by go_simp
theorem faD5 (w : World) (b o : Nat) : (Instr.fieldAt 50 (.pointer (some ⟨b, o, none⟩)) 5).run Try.prog w = .ok (.pointer (some ⟨b, o + 618, none⟩)) w := by go_simp
theorem faM0 (w : World) (b o : Nat) : (Instr.fieldAt 47 (.pointer (some ⟨b, o, none⟩)) 0).run Try.prog w = .ok (.pointer (some ⟨b, o, none⟩)) w := by go_simp
theorem faM1 (w : World) (b o : Nat) : (Instr.fieldAt 47 (.pointer (some ⟨b, o, none⟩)) 1).run Try.prog w = .ok (.pointer (some ⟨b, o + 1, none⟩)) w := by go_simp
theorem faM2 (w : World) (b o : Nat) : (Instr.fieldAt 47 (.pointer (some ⟨b, o, none⟩)) 2).run Try.prog w = .ok (.pointer (some ⟨b, o + 2, none⟩)) w := by go_simp
theorem faM3 (w : World) (b o : Nat) : (Instr.fieldAt 47 (.pointer (some ⟨b, o, none⟩)) 3).run Try.prog w = .ok (.pointer (some ⟨b, o + 3, none⟩)) w := by go_simp
theorem faM4 (w : World) (b o : Nat) : (Instr.fieldAt 47 (.pointer (some ⟨b, o, none⟩)) 4).run Try.prog w = .ok (.pointer (some ⟨b, o + 4, none⟩)) w := by go_simp
theorem faM5 (w : World) (b o : Nat) : (Instr.fieldAt 47 (.pointer (some ⟨b, o, none⟩)) 5).run Try.prog w = .ok (.pointer (some ⟨b, o + 5, none⟩)) w := by go_simp
theorem idx_d (b k : Nat) (hk : k < 100) (w : World) : (Instr.indexAt 48 (.pointer (some ⟨b, 2, none⟩)) (.int .i64 (k : Int))).run Try.prog w = .ok (.pointer (some ⟨b, 2 + k * 6, none⟩)) w := by
 have h1 : (k : Int) < 100 := by omega
 go_simp
structure JH (w : World) (y q : Nat) (n f : Int) (D : Ds) (x : Ev) (V : World) : Prop where
 de : De V y n f D
 bx : V.heap[q]? = some (.cells (ecA x) 34 (0, 0))
 tn : Tn y (some y) (some y) w V
theorem JH.carry {w V V' : World} {y q : Nat} {n f : Int} {D : Ds} {x : Ev} (h : JH w y q n f D x V) (hb : Below V.heap.size V V') : JH w y q n f D x V' := ⟨h.de.carry hb, (hb.block _ (zla h.bx)).trans h.bx, h.tn.trans (Tn.of _ _ hb)⟩
theorem JH.new {w : World} {y : Nat} {n f : Int} {D : Ds} (h : De w y n f D) (x : Ev) : JH w y w.heap.size n f D x (w.alloc (.cells (ecA x) 34)) := ⟨h.carry (al1' _ _), zna rfl, Tn.of _ _ (al1' _ _)⟩
theorem dqy {V : World} {y q : Nat} {n f : Int} {D : Ds} {x : Ev} (h : De V y n f D) (hq : V.heap[q]? = some (.cells (ecA x) 34 (0, 0))) : q ≠ y := by
 rintro rfl
 have := h.box.symm.trans hq
 simp at this
theorem JH.put {w V : World} {y q : Nat} {n f : Int} {D D' : Ds} {x : Ev} (h : JH w y q n f D x V) (j : Nat) (v : Value) (hd : De (V.setCell ⟨y, j, none⟩ v) y n f D') : JH w y q n f D' x (V.setCell ⟨y, j, none⟩ v) := ⟨hd, (Below.heap_setCell _ _ _ _ (dqy h.de h.bx)).trans h.bx, h.tn.trans (Tn.put _ _ _ _ _)⟩
theorem De.nput2 {W : World} {y m j : Nat} {n f : Int} {D : Ds} {u u' : Dn} {v : Value} (h : De W y n f { D with ds := D.ds.set m u }) (hm : m < D.ds.length) (hj : j < 6) (hv : dnc u' = (dnc u).set j v) : De (W.setCell ⟨y, 2 + m * 6 + j, none⟩ v) y n f { D with ds := D.ds.set m u' } := by
 have h1 := h.nput (m := m) (u := u) (u' := u') (by simp [hm]) hj hv
 simpa using h1
def dpre (n : Int) (x : Ev) : Bool := decide (x.nd < 0) || (decide (x.nd ≥ n) || (decide (x.li < 1) || (decide (x.li > 1073741824) || !eqEv x (bareE x))))
def rwbad (D : Ds) (x : Ev) : Bool := (D.rb && ((x.nd != D.c.nd) || ((x.k != 2) && (x.k != 4)))) || (!D.rb && (x.k == 4))
def upbad (u : Dn) (x : Ev) : Bool := (x.k != 1) && (!u.up || (x.li != u.life))
def dl1 (u : Dn) (x : Ev) : Bool := u.up || (decide (x.li ≤ u.most) || (decide (x.ro < 1) || (decide (x.ro > 1099511627775) || (decide (x.ro ≤ u.ask) || (decide (x.ta < u.tag) || decide (x.ta > 1048576))))))
def dl2 (D : Ds) (u : Dn) (x : Ev) : Bool := (D.rb && (decide (x.ro ≤ D.c.ro) || decide (x.ro > 1099511627775))) || (!D.rb && (x.ro != u.op))
def dl3 (n f : Int) (u : Dn) (x : Ev) : Bool := (x.ro != u.op) || (!wthB x.he n || (((((idsTo x.he 100).length : Nat) : Int) != (n - f)) || (!hasB x.he x.nd || (!wthB x.un n || !decide (cln (dif x.he x.un) = 0)))))
def dl4 (n : Int) (D : Ds) (x : Ev) : Bool := decide (x.of < 0) || (decide (x.of ≥ n) || (hasB D.c.un x.of || (decide (x.of ≤ D.la) || (decide (x.ta < 0) || (decide (x.ta > 1048576) || (x.ro != D.c.ro))))))
def dl5 (u : Dn) (x : Ev) : Bool := decide (x.ta ≤ u.tag) || (decide (x.du < x.ta) || decide (x.du > 1048576))
def dlw (n f : Int) (D : Ds) (x : Ev) (m : Nat) (u : Dn) : Option Ds :=
 if x.k = 1 then (if dl1 u x then none else some { D with ds := D.ds.set m ⟨true, x.li, x.li, x.ro, u.ask, x.ta⟩ })
 else if x.k = 2 then (if dl2 D u x then none else some ⟨D.ds.set m { u with op := x.ro, ask := if decide (x.ro > u.ask) then x.ro else u.ask }, false, D.c, D.la⟩)
 else if x.k = 3 then (if dl3 n f u x then none else some ⟨D.ds, true, x, -1⟩)
 else if x.k = 4 then (if dl4 n D x then none else some ⟨D.ds, D.rb, D.c, x.of⟩)
 else if x.k = 5 then (if dl5 u x then none else some { D with ds := D.ds.set m { u with tag := x.ta } })
 else some { D with ds := D.ds.set m { u with up := false } }
def hold (n f : Int) (D : Ds) (x : Ev) : Option Ds := if dpre n x then none else if rwbad D x then none else match D.ds[x.nd.toNat]? with | none => none | some u => if upbad u x then none else dlw n f D x x.nd.toNat u
theorem hold_at {n f : Int} {D : Ds} {x : Ev} {m : Nat} {u : Dn} (h1 : dpre n x = false) (h2 : rwbad D x = false) (hm : D.ds[m]? = some u) (hx : x.nd = (m : Int)) : hold n f D x = if upbad u x then none else dlw n f D x m u := by
 unfold hold
 rw [h1, h2, hx, Int.toNat_natCast, hm]
 rfl
def Ho (y : Nat) (n f : Int) (w : World) (r : Option Ds) (e : Ending) (V : World) : Prop :=
 match r with
 | some D => e = .returned (.bool true) ∧ De V y n f D ∧ Tn y (some y) (some y) w V
 | none => e = .returned (.bool false) ∧ Tn y (some y) (some y) w V
theorem ho_no {y : Nat} {n f : Int} {w V : World} {r : Option Ds} (h : r = none) (ht : Tn y (some y) (some y) w V) : Ho y n f w r (.returned (.bool false)) V := by
 subst h
 exact ⟨rfl, ht⟩
theorem ho_yes {y : Nat} {n f : Int} {w V : World} {r : Option Ds} {D : Ds} (h : r = some D) (hh : De V y n f D) (ht : Tn y (some y) (some y) w V) : Ho y n f w r (.returned (.bool true)) V := by
 subst h
 exact ⟨rfl, hh, ht⟩
end Go.Proofs.Ytifcnnonnocmmaa
namespace Go.Proofs.Ytifcnnonnocmmaa
open Go.RowKit Go.Shelf Go.Lib
def toD (u : Nod) : Dn := ⟨u.up, u.life, u.life, u.op, u.ask, u.tag⟩
structure Rl (n : Nat) (s : Hs) (D : Ds) : Prop where
 len : s.nds.length = n
 nds : ∀ (m : Nat) (u : Nod), s.nds[m]? = some u → D.ds[m]? = some (toD u)
 rb : D.rb = decide (s.c.k = 3)
 row : s.c.k = 3 → D.c = s.c ∧ D.la = s.la
 inv : ∀ (m : Nat) (u : Nod), s.nds[m]? = some u → 0 ≤ u.ask ∧ u.ask ≤ u.op
 op : s.c.k = 3 → ∃ (m : Nat) (u : Nod), s.c.nd = (m : Int) ∧ s.nds[m]? = some u ∧ u.op = s.c.ro
section
variable {n : Nat} {s : Hs} {D : Ds} {x : Ev} {m : Nat} {u u' : Nod} {need f : Int}
theorem Rl.set (h : Rl n s D) (hm : s.nds[m]? = some u) (hr : ¬ s.c.k = 3) (hi : 0 ≤ u'.ask ∧ u'.ask ≤ u'.op) : Rl n { s with nds := s.nds.set m u' } { D with ds := D.ds.set m (toD u') } := by
 refine ⟨by simp [h.len], fun k v hk => ?_, h.rb, fun e => absurd e hr, fun k v hk => ?_, fun e => absurd e hr⟩
 · have hk' := hk
   simp only [List.getElem?_set] at hk'
   split at hk'
   · subst m
     split at hk'
     · cases hk'
       have hl : k < D.ds.length := (List.getElem?_eq_some_iff.1 (h.nds k u hm)).1
       simp [hl]
     · cases hk'
   · rename_i hne
     simp only [List.getElem?_set_ne hne]
     exact h.nds k v hk'
 · simp only [List.getElem?_set] at hk
   split at hk
   · split at hk
     · cases hk; exact hi
     · cases hk
   · exact h.inv k v hk
theorem fol_bad (h : Rl n s D) : rwbad D x = !fol s x := by
 unfold rwbad fol
 rw [h.rb]
 by_cases hk : s.c.k = 3
 · rw [(h.row hk).1]
   simp only [hk, decide_true, if_true, Bool.true_and, Bool.not_true, Bool.false_and, Bool.or_false]
   cases h1 : (x.nd == s.c.nd) <;> cases h2 : (x.k == 4) <;> cases h3 : (x.k == 2) <;> simp [bne, h1, h2, h3]
 · simp only [hk, decide_false, Bool.false_eq_true, if_false, Bool.false_and, Bool.not_false, Bool.true_and, Bool.false_or]
   cases h2 : (x.k == 4) <;> simp [bne, h2]
theorem up_bad : upbad (toD u) x = !((x.k == 1) || (u.up && (u.life == x.li))) := by
 unfold upbad toD
 have e : (x.li != u.life) = !(u.life == x.li) := by
  by_cases q : u.life = x.li
  · simp [q]
  · have q' : ¬ x.li = u.life := fun e => q e.symm
    rw [bne, beq_eq_false_iff_ne.2 q', beq_eq_false_iff_ne.2 q]
 rw [e]
 cases h1 : (x.k == 1) <;> cases h2 : u.up <;> cases h3 : (u.life == x.li) <;> simp [bne, h1]
theorem pre_bad (h : Rl n s D) : dpre (n : Int) x = !((decide (0 ≤ x.nd ∧ x.nd < (s.nds.length : Int)) && (decide (x.li ≥ 1) && decide (x.li ≤ 1073741824))) && eqEv x (bareE x)) := by
 unfold dpre
 rw [h.len]
 cases he : eqEv x (bareE x)
 · simp
 · simp only [Bool.not_true, Bool.or_false, Bool.and_true]
   by_cases h1 : x.nd < 0 <;> by_cases h2 : x.nd ≥ (n : Int) <;> by_cases h3 : x.li < 1 <;> by_cases h4 : x.li > 1073741824 <;> simp [h1, h2, h3, h4] <;> omega
theorem law_rel (h : Rl n s D) (hf : need = (n : Int) - f) (hm : s.nds[m]? = some u) (hx : x.nd = (m : Int)) (hfo : fol s x = true) : match lawR need s x m u with | none => dlw (n : Int) f D x m (toD u) = none | some s' => ∃ D', dlw (n : Int) f D x m (toD u) = some D' ∧ Rl n s' D' := by
 have hu := h.inv m u hm
 have hrk : s.c.k = 3 → x.nd = s.c.nd ∧ (x.k = 4 ∨ x.k = 2) := fun e => by
   unfold fol at hfo
   simp [e] at hfo
   exact hfo
 have hr4 : ¬ s.c.k = 3 → ¬ x.k = 4 := fun e => by
   unfold fol at hfo
   simp [e] at hfo
   exact hfo
 unfold lawR dlw
 by_cases k1 : x.k = 1
 · have hr : ¬ s.c.k = 3 := fun e => by rcases (hrk e).2 with q | q <;> omega
   rw [if_pos k1, if_pos k1]
   unfold law1 dl1
   cases hup : u.up
   · by_cases c : u.life < x.li ∧ u.ask < x.ro ∧ x.ro ≤ 1099511627775 ∧ u.tag ≤ x.ta ∧ x.ta ≤ 1048576
     · rw [if_pos (by simp; omega), if_neg (by simp [toD, hup]; omega)]
       exact ⟨_, rfl, h.set hm hr ⟨hu.1, by show u.ask ≤ x.ro; omega⟩⟩
     · rw [if_neg (by simp; omega), if_pos (by simp [toD, hup]; omega)]
   · rw [if_neg (by simp), if_pos (by simp [toD, hup])]
 rw [if_neg k1, if_neg k1]
 by_cases k2 : x.k = 2
 · rw [if_pos k2, if_pos k2]
   unfold law2 dl2
   by_cases hr : s.c.k = 3
   · obtain ⟨e1, e2⟩ := h.row hr
     obtain ⟨m', v, q1, q2, q3⟩ := h.op hr
     have hmm : m' = m := by have := (hrk hr).1; omega
     subst hmm
     rw [hm] at q2
     cases q2
     rw [if_pos (by simp [hr]), h.rb, e1]
     by_cases c : s.c.ro < x.ro ∧ x.ro ≤ 1099511627775
     · rw [if_pos (by simp; omega), if_neg (by simp [hr]; omega)]
       have hak : decide (x.ro > (toD u).ask) = true := decide_eq_true (by show u.ask < x.ro; omega)
       rw [hak]
       refine ⟨_, rfl, ?_⟩
       refine ⟨by simp [h.len], fun k w hk => ?_, by simp [e0], fun e => by simp [e0] at e, fun k w hk => ?_, fun e => by simp [e0] at e⟩
       · simp only [List.getElem?_set] at hk ⊢
         split at hk
         · subst k
           split at hk
           · cases hk
             have hl : m' < D.ds.length := (List.getElem?_eq_some_iff.1 (h.nds m' u hm)).1
             simp [hl, toD]
           · cases hk
         · rename_i hne
           rw [if_neg hne]
           exact h.nds k w hk
       · simp only [List.getElem?_set] at hk
         split at hk
         · split at hk
           · cases hk; exact ⟨by show 0 ≤ x.ro; omega, Int.le_refl _⟩
           · cases hk
         · exact h.inv k w hk
     · rw [if_neg (by simp; omega), if_pos (by simp [hr]; omega)]
   · rw [if_neg (by simp [hr]), h.rb]
     by_cases c : x.ro = u.op
     · rw [if_pos (by simp [c]), if_neg (by simp [hr, c, toD])]
       have e3 : (if decide (x.ro > (toD u).ask) then x.ro else (toD u).ask) = x.ro := by
         by_cases q : u.ask < x.ro
         · rw [if_pos (decide_eq_true (show x.ro > (toD u).ask from q))]
         · rw [if_neg (by simpa [toD] using q)]
           show u.ask = x.ro
           omega
       rw [e3]
       refine ⟨_, rfl, ?_⟩
       have h2 := h.set (u' := { u with ask := x.ro }) hm hr ⟨by show 0 ≤ x.ro; omega, by show x.ro ≤ u.op; omega⟩
       have e4 : (⟨D.ds.set m { toD u with op := x.ro, ask := x.ro }, false, D.c, D.la⟩ : Ds) = { D with ds := D.ds.set m (toD { u with ask := x.ro }) } := by
         have e5 : D.rb = false := by rw [h.rb]; simp [hr]
         rw [e5]
         simp [toD, c]
       rw [e4]
       exact h2
     · rw [if_neg (by simp [c]), if_pos (by simp [hr, c, toD])]
 rw [if_neg k2, if_neg k2]
 by_cases k3 : x.k = 3
 · have hr : ¬ s.c.k = 3 := fun e => by rcases (hrk e).2 with q | q <;> omega
   rw [if_pos k3, if_pos k3]
   have hc : (((idsTo x.he 100).length : Nat) : Int) = ((cnt (cln x.he) : Nat) : Int) := by
     rw [← idsTo_cln, idsTo_length]; rfl
   unfold law3 dl3
   rw [hc, h.len, hf]
   by_cases c : x.ro = u.op
   · cases c1 : wthB x.he (n : Int)
     · rw [if_neg (by simp [c]), if_pos (by simp [c, toD])]
     cases c2 : hasB x.he x.nd
     · rw [if_neg (by simp), if_pos (by simp)]
     cases c3 : wthB x.un (n : Int)
     · rw [if_neg (by simp), if_pos (by simp)]
     by_cases c4 : ((cnt (cln x.he) : Nat) : Int) = (n : Int) - f
     · by_cases c5 : cln (dif x.he x.un) = 0
       · rw [if_pos (by simp [c, c4, c5]), if_neg (by simp [c, c4, c5, toD])]
         exact ⟨_, rfl, h.len, h.nds, by simp [k3], fun _ => ⟨rfl, rfl⟩, h.inv, fun _ => ⟨m, u, hx, hm, c.symm⟩⟩
       · rw [if_neg (by simp [c5]), if_pos (by simp [c5])]
     · rw [if_neg (by simp [c4]), if_pos (by simp [c4])]
   · rw [if_neg (by simp [c]), if_pos (by simp [c, toD])]
 rw [if_neg k3, if_neg k3]
 by_cases k4 : x.k = 4
 · have hr : s.c.k = 3 := by
     by_cases q : s.c.k = 3
     · exact q
     · exact absurd k4 (hr4 q)
   obtain ⟨e1, e2⟩ := h.row hr
   rw [if_pos k4, if_pos k4]
   unfold law4 dl4
   rw [e1, e2, h.len]
   cases c1 : hasB s.c.un x.of
   · by_cases c : 0 ≤ x.of ∧ x.of < (n : Int) ∧ s.la < x.of ∧ 0 ≤ x.ta ∧ x.ta ≤ 1048576 ∧ x.ro = s.c.ro
     · rw [if_pos (by simp; omega), if_neg (by simp; omega)]
       exact ⟨_, rfl, h.len, h.nds, h.rb, fun _ => ⟨rfl, rfl⟩, h.inv, h.op⟩
     · rw [if_neg (by simp; omega), if_pos (by simp; omega)]
   · rw [if_neg (by simp), if_pos (by simp)]
 rw [if_neg k4, if_neg k4]
 have hr : ¬ s.c.k = 3 := fun e => by rcases (hrk e).2 with q | q <;> omega
 by_cases k5 : x.k = 5
 · rw [if_pos k5, if_pos k5]
   unfold law5 dl5
   by_cases c : u.tag < x.ta ∧ x.ta ≤ x.du ∧ x.du ≤ 1048576
   · rw [if_pos (by simp; omega), if_neg (by rw [show (toD u).tag = u.tag from rfl]; simp; omega)]
     exact ⟨_, rfl, h.set hm hr hu⟩
   · rw [if_neg (by simp; omega), if_pos (by rw [show (toD u).tag = u.tag from rfl]; simp; omega)]
 rw [if_neg k5, if_neg k5]
 exact ⟨_, rfl, h.set hm hr hu⟩
theorem hold_evt (h : Rl n s D) (hf : need = (n : Int) - f) (hk : 1 ≤ x.k ∧ x.k ≤ 6) : match evt need s x with | none => hold (n : Int) f D x = none | some s' => ∃ D', hold (n : Int) f D x = some D' ∧ Rl n s' D' := by
 have hp := pre_bad (x := x) h
 unfold evt
 rw [if_pos (decide_eq_true hk)]
 unfold evtF hold
 cases h1 : (decide (0 ≤ x.nd ∧ x.nd < (s.nds.length : Int)) && (decide (x.li ≥ 1) && decide (x.li ≤ 1073741824)))
 · rw [h1] at hp
   rw [hp]
   rfl
 · rw [h1] at hp
   cases h2 : eqEv x (bareE x)
   · rw [h2] at hp
     rw [hp]
     rfl
   · rw [h2] at hp
     rw [hp, fol_bad h]
     cases h3 : fol s x
     · rfl
     · have hnd : 0 ≤ x.nd ∧ x.nd < (s.nds.length : Int) := by
         simp at h1
         omega
       obtain ⟨u, hm⟩ : ∃ u, s.nds[x.nd.toNat]? = some u := ⟨_, List.getElem?_eq_getElem (by omega)⟩
       have hx : x.nd = ((x.nd.toNat : Nat) : Int) := by omega
       rw [hm, h.nds _ _ hm]
       simp only [if_true, Bool.true_and, Bool.not_true, Bool.false_eq_true, if_false, up_bad]
       cases h4 : ((x.k == 1) || (u.up && (u.life == x.li)))
       · rfl
       · simp only [if_true, Bool.not_true, Bool.false_eq_true, if_false]
         exact law_rel h hf hm hx h3
end
attribute [local go_sem] Oper.semAt_some
theorem hold_0 {w : World} {y : Nat} {n f : Int} {D : Ds} (h : De w y n f D) (k : Int) (hk : ¬ (1 ≤ k ∧ k ≤ 6)) (nd li ro ta of du : Int) (he un : Nat) : Calls Try.prog 12 #[.pointer (some ⟨y, 0, none⟩), evV ⟨k, nd, li, ro, ta, of, du, he, un⟩] w (Ho y n f w none) := by
 have hmx : Try.prog.follows .mixedOrders = true := by kernel_rfl
 have hJ0 := JH.new h ⟨k, nd, li, ro, ta, of, du, he, un⟩
 unfold evV ecA
 go_enter Try.func12, Try.ntmps12
 go_wp2
 cases c0 : decide (k < 1) with
 | true =>
  refine wp_region_any hmx ?_
  refine zwp (fun i__ => ([(.pointer (some ⟨w.heap.size, 0, none⟩)), (.int .i64 k), (.bool true), (.bool true), undef, undef, undef, (.bool true), (.bool true), undef, undef, undef, (.bool true), (.bool true), undef, undef, undef, undef, undef, undef, undef, (.bool true), (.bool true), undef, undef, undef, (.bool true), (.bool true), undef, undef, undef, (.bool true), (.bool true), undef, undef, undef, (.bool true)] : List Value).getD i__ undef) (fun V => JH w y w.heap.size n f D ⟨k, nd, li, ro, ta, of, du, he, un⟩ V) (by kernel_rfl) (hJ0.carry (Below.refl _ _).drew) ?_ ?_
  · refine (sqc ?_ (sqc ?_ (sqc ?_ (sqc ?_ (sqc ?_ (sqc ?_ (sqc ?_ (sqc ?_ (sqc ?_ (sqc ?_ (sqc ?_ (sqc ?_ (sqc ?_ (sqc ?_ (sqc ?_ (sqc ?_ (sqc ?_ (sqc ?_ (sqc ?_ (sqc ?_ (sqc ?_ (sqc ?_ (sqc ?_ (sqc ?_ (sqc ?_ (sqc ?_ (sqc ?_ (sqc ?_ (sqc ?_ (sqc ?_ (sqc ?_ (sqc ?_ (sqc ?_ (sqc ?_ (sqc ?_ (sqc ?_ (sqc ?_ trivial)))))))))))))))))))))))))))))))))))))
    · exact zfa rfl trivial _ _ _ _ rfl rfl (fun w hw => faE0 w _ _)
    · exact zld rfl trivial _ _ _ rfl rfl (fun w hw => load_in ((zca hw.bx 0).trans rfl))
    · exact zbo rfl trivial _ _ _ _ _ _ _ rfl rfl rfl (fun w hw => by rw [← c0]; exact bin_lss _ _ _)
    · exact zmv rfl trivial _ rfl (by kernel_rfl)
    · exact zsk rfl 3 false 9 (.bool true) rfl rfl (by kernel_rfl) (by intro h; cases h) rfl
    · exact zsk rfl 3 false 9 (.bool true) rfl rfl (by kernel_rfl) (by intro h; cases h) rfl
    · exact zsk rfl 3 false 9 (.bool true) rfl rfl (by kernel_rfl) (by intro h; cases h) rfl
    · exact step_pick rfl trivial _ _ _ true rfl (by kernel_rfl) (by kernel_rfl)
    · exact zmv rfl trivial _ rfl (by kernel_rfl)
    · exact zsk rfl 8 false 14 (.bool true) rfl rfl (by kernel_rfl) (by intro h; cases h) rfl
    · exact zsk rfl 8 false 14 (.bool true) rfl rfl (by kernel_rfl) (by intro h; cases h) rfl
    · exact zsk rfl 8 false 14 (.bool true) rfl rfl (by kernel_rfl) (by intro h; cases h) rfl
    · exact step_pick rfl trivial _ _ _ true rfl (by kernel_rfl) (by kernel_rfl)
    · exact zmv rfl trivial _ rfl (by kernel_rfl)
    · exact zsk rfl 13 false 19 (.bool true) rfl rfl (by kernel_rfl) (by intro h; cases h) rfl
    · exact zsk rfl 13 false 19 (.bool true) rfl rfl (by kernel_rfl) (by intro h; cases h) rfl
    · exact zsk rfl 13 false 19 (.bool true) rfl rfl (by kernel_rfl) (by intro h; cases h) rfl
    · exact zsk rfl 13 false 19 (.bool true) rfl rfl (by kernel_rfl) (by intro h; cases h) rfl
    · exact zsk rfl 13 false 19 (.bool true) rfl rfl (by kernel_rfl) (by intro h; cases h) rfl
    · exact zsk rfl 13 false 19 (.bool true) rfl rfl (by kernel_rfl) (by intro h; cases h) rfl
    · exact zsk rfl 13 false 19 (.bool true) rfl rfl (by kernel_rfl) (by intro h; cases h) rfl
    · exact step_pick rfl trivial _ _ _ true rfl (by kernel_rfl) (by kernel_rfl)
    · exact zmv rfl trivial _ rfl (by kernel_rfl)
    · exact zsk rfl 22 false 28 (.bool true) rfl rfl (by kernel_rfl) (by intro h; cases h) rfl
    · exact zsk rfl 22 false 28 (.bool true) rfl rfl (by kernel_rfl) (by intro h; cases h) rfl
    · exact zsk rfl 22 false 28 (.bool true) rfl rfl (by kernel_rfl) (by intro h; cases h) rfl
    · exact step_pick rfl trivial _ _ _ true rfl (by kernel_rfl) (by kernel_rfl)
    · exact zmv rfl trivial _ rfl (by kernel_rfl)
    · exact zsk rfl 27 false 33 (.bool true) rfl rfl (by kernel_rfl) (by intro h; cases h) rfl
    · exact zsk rfl 27 false 33 (.bool true) rfl rfl (by kernel_rfl) (by intro h; cases h) rfl
    · exact zsk rfl 27 false 33 (.bool true) rfl rfl (by kernel_rfl) (by intro h; cases h) rfl
    · exact step_pick rfl trivial _ _ _ true rfl (by kernel_rfl) (by kernel_rfl)
    · exact zmv rfl trivial _ rfl (by kernel_rfl)
    · exact zsk rfl 32 false 38 (.bool true) rfl rfl (by kernel_rfl) (by intro h; cases h) rfl
    · exact zsk rfl 32 false 38 (.bool true) rfl rfl (by kernel_rfl) (by intro h; cases h) rfl
    · exact zsk rfl 32 false 38 (.bool true) rfl rfl (by kernel_rfl) (by intro h; cases h) rfl
    · exact step_pick rfl trivial _ _ _ true rfl (by kernel_rfl) (by kernel_rfl)
  intro W hW
  first | refine hK _ _ ?_ | refine (‹∀ (a : Act) (w : World), Code.wp Try.prog _ _ a w → _›) _ _ ?_ | skip
  simp only [finL, List.getD_cons_zero, List.getD_cons_succ, Nat.zero_add, Nat.reduceAdd, List.setIfInBounds_toArray, List.set_cons_zero, List.set_cons_succ]
  go_wp2
  go_ret
  exact ho_no rfl hW.tn
 | false =>
  have c1 : decide (k > 6) = true := by
    have := of_decide_eq_false c0
    exact decide_eq_true (by omega)
  refine wp_region_any hmx ?_
  refine zwp (fun i__ => ([(.pointer (some ⟨w.heap.size, 0, none⟩)), (.int .i64 k), (.bool false), (.bool false), (.pointer (some ⟨w.heap.size, 0, none⟩)), (.int .i64 k), (.bool true), (.bool true), (.bool true), undef, undef, undef, (.bool true), (.bool true), undef, undef, undef, undef, undef, undef, undef, (.bool true), (.bool true), undef, undef, undef, (.bool true), (.bool true), undef, undef, undef, (.bool true), (.bool true), undef, undef, undef, (.bool true)] : List Value).getD i__ undef) (fun V => JH w y w.heap.size n f D ⟨k, nd, li, ro, ta, of, du, he, un⟩ V) (by kernel_rfl) (hJ0.carry (Below.refl _ _).drew) ?_ ?_
  · refine (sqc ?_ (sqc ?_ (sqc ?_ (sqc ?_ (sqc ?_ (sqc ?_ (sqc ?_ (sqc ?_ (sqc ?_ (sqc ?_ (sqc ?_ (sqc ?_ (sqc ?_ (sqc ?_ (sqc ?_ (sqc ?_ (sqc ?_ (sqc ?_ (sqc ?_ (sqc ?_ (sqc ?_ (sqc ?_ (sqc ?_ (sqc ?_ (sqc ?_ (sqc ?_ (sqc ?_ (sqc ?_ (sqc ?_ (sqc ?_ (sqc ?_ (sqc ?_ (sqc ?_ (sqc ?_ (sqc ?_ (sqc ?_ (sqc ?_ trivial)))))))))))))))))))))))))))))))))))))
    · exact zfa rfl trivial _ _ _ _ rfl rfl (fun w hw => faE0 w _ _)
    · exact zld rfl trivial _ _ _ rfl rfl (fun w hw => load_in ((zca hw.bx 0).trans rfl))
    · exact zbo rfl trivial _ _ _ _ _ _ _ rfl rfl rfl (fun w hw => by rw [← c0]; exact bin_lss _ _ _)
    · exact zmv rfl trivial _ rfl (by kernel_rfl)
    · exact zfa rfl ⟨_, rfl, by kernel_rfl⟩ _ _ _ _ rfl rfl (fun w hw => faE0 w _ _)
    · exact zld rfl ⟨_, rfl, by kernel_rfl⟩ _ _ _ rfl rfl (fun w hw => load_in ((zca hw.bx 0).trans rfl))
    · exact zbo rfl ⟨_, rfl, by kernel_rfl⟩ _ _ _ _ _ _ _ rfl rfl rfl (fun w hw => by rw [← c1]; exact bin_gtr _ _ _)
    · exact step_pick rfl trivial _ _ _ false rfl (by kernel_rfl) (by kernel_rfl)
    · exact zmv rfl trivial _ rfl (by kernel_rfl)
    · exact zsk rfl 8 false 14 (.bool true) rfl rfl (by kernel_rfl) (by intro h; cases h) rfl
    · exact zsk rfl 8 false 14 (.bool true) rfl rfl (by kernel_rfl) (by intro h; cases h) rfl
    · exact zsk rfl 8 false 14 (.bool true) rfl rfl (by kernel_rfl) (by intro h; cases h) rfl
    · exact step_pick rfl trivial _ _ _ true rfl (by kernel_rfl) (by kernel_rfl)
    · exact zmv rfl trivial _ rfl (by kernel_rfl)
    · exact zsk rfl 13 false 19 (.bool true) rfl rfl (by kernel_rfl) (by intro h; cases h) rfl
    · exact zsk rfl 13 false 19 (.bool true) rfl rfl (by kernel_rfl) (by intro h; cases h) rfl
    · exact zsk rfl 13 false 19 (.bool true) rfl rfl (by kernel_rfl) (by intro h; cases h) rfl
    · exact zsk rfl 13 false 19 (.bool true) rfl rfl (by kernel_rfl) (by intro h; cases h) rfl
    · exact zsk rfl 13 false 19 (.bool true) rfl rfl (by kernel_rfl) (by intro h; cases h) rfl
    · exact zsk rfl 13 false 19 (.bool true) rfl rfl (by kernel_rfl) (by intro h; cases h) rfl
    · exact zsk rfl 13 false 19 (.bool true) rfl rfl (by kernel_rfl) (by intro h; cases h) rfl
    · exact step_pick rfl trivial _ _ _ true rfl (by kernel_rfl) (by kernel_rfl)
    · exact zmv rfl trivial _ rfl (by kernel_rfl)
    · exact zsk rfl 22 false 28 (.bool true) rfl rfl (by kernel_rfl) (by intro h; cases h) rfl
    · exact zsk rfl 22 false 28 (.bool true) rfl rfl (by kernel_rfl) (by intro h; cases h) rfl
    · exact zsk rfl 22 false 28 (.bool true) rfl rfl (by kernel_rfl) (by intro h; cases h) rfl
    · exact step_pick rfl trivial _ _ _ true rfl (by kernel_rfl) (by kernel_rfl)
    · exact zmv rfl trivial _ rfl (by kernel_rfl)
    · exact zsk rfl 27 false 33 (.bool true) rfl rfl (by kernel_rfl) (by intro h; cases h) rfl
    · exact zsk rfl 27 false 33 (.bool true) rfl rfl (by kernel_rfl) (by intro h; cases h) rfl
    · exact zsk rfl 27 false 33 (.bool true) rfl rfl (by kernel_rfl) (by intro h; cases h) rfl
    · exact step_pick rfl trivial _ _ _ true rfl (by kernel_rfl) (by kernel_rfl)
    · exact zmv rfl trivial _ rfl (by kernel_rfl)
    · exact zsk rfl 32 false 38 (.bool true) rfl rfl (by kernel_rfl) (by intro h; cases h) rfl
    · exact zsk rfl 32 false 38 (.bool true) rfl rfl (by kernel_rfl) (by intro h; cases h) rfl
    · exact zsk rfl 32 false 38 (.bool true) rfl rfl (by kernel_rfl) (by intro h; cases h) rfl
    · exact step_pick rfl trivial _ _ _ true rfl (by kernel_rfl) (by kernel_rfl)
  intro W hW
  first | refine hK _ _ ?_ | refine (‹∀ (a : Act) (w : World), Code.wp Try.prog _ _ a w → _›) _ _ ?_ | skip
  simp only [finL, List.getD_cons_zero, List.getD_cons_succ, Nat.zero_add, Nat.reduceAdd, List.setIfInBounds_toArray, List.set_cons_zero, List.set_cons_succ]
  go_wp2
  go_ret
  exact ho_no rfl hW.tn
end Go.Proofs.Ytifcnnonnocmmaa
