/- audit.history: what it answers. -/
import Derived.Test.YtgnhainfcfcodaaGreatAui
import Derived.WalkMore
namespace Go.Proofs.YtgnhainfcfcodaaGreat
open Go.RowKit Go.Shelf Go.Lib
attribute [local go_sem] Oper.semAt_some

theorem step_lookup {P : Program} {md : Region.Mode} {ops : Array Oper} {Q : Exit → Act → World → Prop} {X0 : Array Value} {val : Nat → Value} {J : World → Prop} {i : Nat} {o : Oper} (hi : ops[i]? = some o) (hg : GOk md ops X0 val i o) (t : TypeId) (x y : Operand) (c : Bool) (p q : Value) (ho : o.op = .lookup t x y c) (hx : rdo md ops X0 val i o x = some p) (hy : rdo md ops X0 val i o y = some q) (hr : ∀ w, J w → (Instr.lookup t p q c).run P w = .ok (val i) w) : StepAt P md ops Q X0 val J J i o :=
  step_of hi hg fun a w hJ hS => by
    unfold Oper.wp execOp
    simp only [ho, hS.eval hx, hS.eval hy, Sem.run_bind, hr w hJ, Result.andThen_ok, Sem.run_pure, Oper.upon_value]
    exact ⟨trivial, hJ⟩
/-- Where a history offends. -/
def badAt (need : Int) : Hs → List Ev → Nat → Option Nat
  | s, [], k => if decide (s.c.k = 3) then some k else none
  | s, x :: l, k => match evt need s x with
    | none => some k
    | some s' => badAt need s' l (k + 1)
/-- What an event within a row leaves. -/
theorem evt_row {need : Int} {s s' : Hs} {x : Ev} (h : evt need s x = some s') (hr : s.c.k = 3) : (x.k = 2 ∧ ¬ s'.c.k = 3) ∨ (x.k = 4 ∧ s'.c.k = 3) := by
  unfold evt at h
  split at h
  case isFalse => cases h
  unfold evtF at h
  split at h
  case isFalse => cases h
  split at h
  case isFalse => cases h
  split at h
  case isFalse => cases h
  rename_i hf
  unfold fol at hf
  rw [if_pos (by simp [hr])] at hf
  split at h
  · cases h
  split at h
  case isFalse => cases h
  simp only [Bool.and_eq_true, Bool.or_eq_true, beq_iff_eq] at hf
  obtain ⟨_, h4 | h2⟩ := hf
  · right
    refine ⟨h4, ?_⟩
    unfold lawR at h
    simp [h4] at h
    unfold law4 at h
    split at h
    · cases h; exact hr
    · cases h
  · left
    refine ⟨h2, ?_⟩
    unfold lawR at h
    simp [h2] at h
    unfold law2 at h
    rw [if_pos (by simp [hr])] at h
    split at h
    · cases h; simp [e0]
    · cases h
/-- What an event outside a row leaves. -/
theorem evt_out {need : Int} {s s' : Hs} {x : Ev} (h : evt need s x = some s') (hr : ¬ s.c.k = 3) : (x.k = 3 ∧ s'.c.k = 3) ∨ (¬ x.k = 3 ∧ ¬ s'.c.k = 3) := by
  unfold evt at h
  split at h
  case isFalse => cases h
  unfold evtF at h
  split at h
  case isFalse => cases h
  split at h
  case isFalse => cases h
  split at h
  case isFalse => cases h
  rename_i hf
  unfold fol at hf
  rw [if_neg (by simp [hr])] at hf
  split at h
  · cases h
  split at h
  case isFalse => cases h
  simp only [bne_iff_ne, ne_eq] at hf
  unfold lawR at h
  by_cases q1 : x.k = 1
  · rw [if_pos q1] at h
    right
    refine ⟨by omega, ?_⟩
    unfold law1 at h
    split at h
    · cases h; exact hr
    · cases h
  rw [if_neg q1] at h
  by_cases q2 : x.k = 2
  · rw [if_pos q2] at h
    right
    refine ⟨by omega, ?_⟩
    unfold law2 at h
    rw [if_neg (by simp [hr])] at h
    split at h
    · cases h; exact hr
    · cases h
  rw [if_neg q2] at h
  by_cases h3 : x.k = 3
  · rw [if_pos h3] at h
    left
    refine ⟨h3, ?_⟩
    unfold law3 at h
    split at h
    · cases h; exact h3
    · cases h
  rw [if_neg h3, if_neg hf] at h
  right
  refine ⟨h3, ?_⟩
  split at h
  · unfold law5 at h
    split at h
    · cases h; exact hr
    · cases h
  · unfold law6 at h
    cases h; exact hr
/-- While a history is gone through. -/
structure HR (w : World) (p b M bb oo : Nat) (need : Int) (l : List Ev) (B : Option Nat) (j : Nat) (s : Hs) (V : World) : Prop where
  he : He V p b need (j : Int) s
  tn : Tn p (some b) (some b) w V
  mp : V.heap[M]? = some (.map (ES p) 6)
  le : j ≤ l.length
  rd : ∀ (k : Nat) (x : Ev), l[k]? = some x → ∀ (i : Nat) (v : Value), (ecA x)[i]? = some v → V.cell? ⟨bb, oo + k * 15 + i, none⟩ = some v
  np : bb ≠ p
  nb : bb ≠ b
  bd : badAt need s (l.drop j) j = B
theorem he_np {V : World} {p b M : Nat} {need pl : Int} {s : Hs} {e : Array MapEntry} {c : Nat} (h : He V p b need pl s) (hm : V.heap[M]? = some (.map e c)) : M ≠ p ∧ M ≠ b := by
  constructor
  · rintro rfl
    have := h.box.symm.trans hm
    simp at this
  · rintro rfl
    have := h.nod.symm.trans hm
    simp at this
theorem tn_cell {p b bb o : Nat} {W V : World} {v : Value} (h : Tn p (some b) (some b) W V) (hp : bb ≠ p) (hb : bb ≠ b) (hc : W.cell? ⟨bb, o, none⟩ = some v) : V.cell? ⟨bb, o, none⟩ = some v := by
  have hl : bb < W.heap.size := by
    unfold World.cell? at hc
    cases hq : W.heap[bb]? with
    | none => simp [hq] at hc
    | some o => exact (Array.getElem?_eq_some_iff.1 hq).1
  rw [← hc]
  unfold World.cell?
  rw [h.block bb hl hp (by simpa using hb)]
section
variable {w V V' : World} {p b M bb oo : Nat} {need : Int} {l : List Ev} {B B' : Option Nat} {j : Nat} {s s' : Hs}
/-- What has turned the hearing alone. -/
theorem HR.turn (h : HR w p b M bb oo need l B j s V) (ht : Tn p (some b) (some b) V V') (j' : Nat) (hh : He V' p b need (j' : Int) s') (hl : j' ≤ l.length) (hb : badAt need s' (l.drop j') j' = B') : HR w p b M bb oo need l B' j' s' V' :=
  ⟨hh, h.tn.trans ht, (ht.block M (by have := (Array.getElem?_eq_some_iff.1 h.mp).1; exact this) (he_np h.he h.mp).1 (by simpa using (he_np h.he h.mp).2)).trans h.mp, hl, fun k x hx i v hv => tn_cell ht h.np h.nb (h.rd k x hx i v hv), h.np, h.nb, hb⟩
theorem HR.carry (h : HR w p b M bb oo need l B j s V) (hb : Below V.heap.size V V') : HR w p b M bb oo need l B j s V' := h.turn (Tn.of _ _ hb) j (h.he.carry hb) h.le h.bd
theorem HR.next {x : Ev} (h : HR w p b M bb oo need l B j s V) (hx : l[j]? = some x) : (match evt need s x with | none => some j | some s' => badAt need s' (l.drop (j + 1)) (j + 1)) = B := by
  have hb := h.bd
  rw [List.drop_eq_getElem_cons (List.getElem?_eq_some_iff.1 hx).1, (List.getElem?_eq_some_iff.1 hx).2] at hb
  exact hb
end
def atN (p : Nat) (V : World) : Nat := match V.cell? ⟨p, 1, none⟩ with | some (.int _ i) => i.toNat | _ => 0
theorem atN_he {V : World} {p b : Nat} {need : Int} {j : Nat} {s : Hs} (h : He V p b need (j : Int) s) : atN p V = j := by
  unfold atN
  rw [show V.cell? ⟨p, 1, none⟩ = some (.int .i64 (j : Int)) from (cell_at h.box 1).trans rfl]
  simp
theorem idx_e (bb oo n c k : Nat) (hk : k < n) (w : World) : (Instr.indexAt 22 (.slice (some ⟨bb, oo, none⟩) n c) (.int .i64 (k : Int))).run Tryz.prog w = .ok (.pointer (some ⟨bb, oo + k * 15, none⟩)) w := by
  have h1 : (k : Int) < (n : Int) := by omega
  go_simp
/-- What a history answers. -/
def HO (B : Option Nat) (p b : Nat) (w : World) (e : Ending) (V : World) : Prop := e = (match B with | none => .returned (.tuple #[]) | some j => .panicked (off (j : Int))) ∧ Tn p (some b) (some b) w V
structure RdE (W : World) (ad : Option Addr) (l : List Ev) : Prop where
  at' : l ≠ [] → ∃ bb oo, ad = some ⟨bb, oo, none⟩ ∧ bb < W.heap.size ∧ ∀ (k : Nat) (x : Ev), l[k]? = some x → ∀ (i : Nat) (v : Value), (ecA x)[i]? = some v → W.cell? ⟨bb, oo + k * 15 + i, none⟩ = some v
  ok : ∀ x ∈ l, x.he < S128 ∧ x.un < S128 ∧ (Lit.int .i64 x.k).wf = true
set_option maxHeartbeats 4000000 in
set_option maxRecDepth 100000 in
theorem history_any {w : World} {p b : Nat} {need : Int} {s0 : Hs} (h : He w p b need 0 s0) (hr0 : ¬ s0.c.k = 3) (ad : Option Addr) (cap : Nat) (l : List Ev) (hl : RdE w ad l) (hlp : l ≠ [] → ∀ bb oo, ad = some ⟨bb, oo, none⟩ → bb ≠ p ∧ bb ≠ b) (hlen : l.length ≤ 1000000) : Calls Tryz.prog 72 #[.pointer (some ⟨p, 0, none⟩), .slice ad l.length cap] w (HO (badAt need s0 l 0) p b w) := by
  have hmx : Tryz.prog.follows .mixedOrders = true := by kernel_rfl
  have hlw := laws_any p w
  obtain ⟨B, hB0⟩ : ∃ B, badAt need s0 l 0 = B := ⟨_, rfl⟩
  rw [hB0]
  have HB0 : Hid (badAt need s0 l 0 = B) := hB0
  clear hB0
  obtain ⟨bb, oo, had, hnp, hnb, hrd⟩ : ∃ bb oo, (l ≠ [] → ad = some ⟨bb, oo, none⟩) ∧ bb ≠ p ∧ bb ≠ b ∧ ∀ (k : Nat) (x : Ev), l[k]? = some x → ∀ (i : Nat) (v : Value), (ecA x)[i]? = some v → w.cell? ⟨bb, oo + k * 15 + i, none⟩ = some v := by
    by_cases hne : l = []
    · subst hne
      refine ⟨p + b + 1, 0, fun e => absurd rfl e, by omega, by omega, fun k x hx => by simp at hx⟩
    · obtain ⟨bb, oo, h1, h2, h3⟩ := hl.at' hne
      exact ⟨bb, oo, fun _ => h1, (hlp hne bb oo h1).1, (hlp hne bb oo h1).2, h3⟩
  have hok := hl.ok
  obtain ⟨M, hM⟩ : ∃ M, w.heap.size = M := ⟨_, rfl⟩
  rw [hM] at hlw
  clear hl hlp
  go_enter Tryz.func72, Tryz.ntmps72
  go_wp2
  go_step3
  go_wp2_with (go_at_call 94; (with_reducible refine hlw.mono ?_); rintro e w1 ⟨rfl, hmp, hu1⟩)
  go_step3
  go_wp2
  have hu1 : Below w.heap.size w w1 := by rw [hM]; exact hu1
  have hH0 : HR w1 p b M bb oo need l B 0 s0 w1 := ⟨h.carry hu1, Tn.of _ _ (Below.refl _ _), hmp, Nat.zero_le _, fun k x hx i v hv => (tn_cell (Tn.of p (some b) hu1) hnp hnb (hrd k x hx i v hv)), hnp, hnb, by rw [List.drop_zero]; exact HB0.out⟩
  clear hlw hrd h hmp
  go_loopw [] (fun wz => ∃ (j : Nat) (s : Hs), ¬ s.c.k = 3 ∧ Hid (HR w1 p b M bb oo need l B j s wz)) (fun wz => l.length - atN p wz)
  case atStart => exact ⟨0, s0, hr0, hH0⟩
  case round =>
    clear hH0 hr0 HB0
    obtain ⟨j, s, hrow, HH⟩ := hrel
    have hH := HH.out
    clear HH
    have c1 : wr.cell? ⟨p, 1, none⟩ = some (.int .i64 (j : Int)) := (cell_at hH.he.box 1).trans rfl
    have z1 := hH.he.frz 1
    have HA : Hid (atN p wr = j) := atN_he hH.he
    by_cases hjl : j < l.length
    case neg =>
      have hji : ¬ (j : Int) < (l.length : Int) := by omega
      have HF : Hid (HO B p b w (.returned (.tuple #[])) wr) := by
        have hb := hH.bd
        rw [List.drop_eq_nil_of_le (by omega)] at hb
        unfold badAt at hb
        rw [if_neg (by simp [hrow])] at hb
        exact ⟨by rw [← hb], (Tn.of _ _ hu1).trans hH.tn⟩
      clear hH
      go_wp2
      go_end0
      exact HF.out
    have hji : (j : Int) < (l.length : Int) := by omega
    obtain ⟨x, hx⟩ : ∃ x, l[j]? = some x := ⟨_, List.getElem?_eq_getElem hjl⟩
    obtain ⟨hxe, hxu, hwk⟩ := hok x (List.mem_of_getElem? hx)
    have hada := had (fun e => by rw [e] at hjl; simp at hjl)
    subst hada
    have hnx := hH.next hx
    go_wp2
    cases hev : evt need s x with
    | none =>
      have hB : some j = B := by rw [hev] at hnx; exact hnx
      refine wp_region_any hmx ?_
      refine wpAny_dies 18 (fun i__ => ([(.pointer (some ⟨p, 0, none⟩)), (.slice (some ⟨bb, oo, none⟩) l.length cap), (.pointer (some ⟨p, 0, none⟩)), (.pointer (some ⟨p, 0, none⟩)), (.pointer (some ⟨p, 1, none⟩)), (.int .i64 (j : Int)), (.pointer (some ⟨bb, oo + j * 15, none⟩)), (evV x), (.map (some M)), (.slice (some ⟨bb, oo, none⟩) l.length cap), (.pointer (some ⟨p, 0, none⟩)), (.pointer (some ⟨p, 0, none⟩)), (.pointer (some ⟨p, 1, none⟩)), (.int .i64 (j : Int)), (.pointer (some ⟨bb, oo + j * 15, none⟩)), (.pointer (some ⟨bb, oo + j * 15, none⟩)), (.int .i64 x.k), (lwV p x.k), undef] : List Value).getD i__ undef) (fun V => HR w1 p b M bb oo need l B j s V) rfl (by kernel_rfl) (hH.carry (Below.refl _ _).drew) ?_ ?_
      · refine (stepsFrom_cons ?_ (stepsFrom_cons ?_ (stepsFrom_cons ?_ (stepsFrom_cons ?_ (stepsFrom_cons ?_ (stepsFrom_cons ?_ (stepsFrom_cons ?_ (stepsFrom_cons ?_ (stepsFrom_cons ?_ (stepsFrom_cons ?_ (stepsFrom_cons ?_ (stepsFrom_cons ?_ (stepsFrom_cons ?_ (stepsFrom_cons ?_ (stepsFrom_cons ?_ (stepsFrom_cons ?_ (stepsFrom_cons ?_ (stepsFrom_cons ?_ trivial))))))))))))))))))
        · exact step_move rfl trivial _ rfl (by kernel_rfl)
        · exact step_move rfl trivial _ rfl (by kernel_rfl)
        · exact step_move rfl trivial _ rfl (by kernel_rfl)
        · exact step_nilCheck rfl trivial _ _ _ rfl rfl rfl
        · exact step_fieldAddr rfl trivial _ _ _ _ rfl rfl (fun w hw => faH1 w _ _)
        · exact step_load rfl trivial _ _ _ rfl rfl (fun w hw => load_in ((cell_at hw.he.box 1).trans rfl))
        · exact step_indexAddr rfl trivial _ _ _ _ _ rfl rfl rfl (fun w hw => idx_e bb oo l.length cap j (by omega) w)
        · exact step_load rfl trivial _ _ _ rfl rfl (fun w hw => load_ev (fun i v hv => hw.rd j x hx i v hv))
        · exact step_move rfl trivial _ rfl (by kernel_rfl)
        · exact step_move rfl trivial _ rfl (by kernel_rfl)
        · exact step_move rfl trivial _ rfl (by kernel_rfl)
        · exact step_nilCheck rfl trivial _ _ _ rfl rfl rfl
        · exact step_fieldAddr rfl trivial _ _ _ _ rfl rfl (fun w hw => faH1 w _ _)
        · exact step_load rfl trivial _ _ _ rfl rfl (fun w hw => load_in ((cell_at hw.he.box 1).trans rfl))
        · exact step_indexAddr rfl trivial _ _ _ _ _ rfl rfl rfl (fun w hw => idx_e bb oo l.length cap j (by omega) w)
        · exact step_fieldAddr rfl trivial _ _ _ _ rfl rfl (fun w hw => faE0 w _ _)
        · exact step_load rfl trivial _ _ _ rfl rfl (fun w hw => load_in (hw.rd j x hx 0 _ rfl))
        · exact step_lookup rfl trivial _ _ _ _ _ _ rfl rfl rfl (fun w hw => look_ES hw.mp hwk)
      · intro o ho
        cases ho
        exact call_dies rfl trivial 95 _ _ [(.pointer (some ⟨p, 0, none⟩)), (evV x), (lwV p x.k)] rfl (by kernel_rfl) (enters_of Tryz.func95 (by kernel_rfl) rfl) (off (j : Int)) (J2 := fun V => Tn p (some b) (some b) w1 V) (fun w hw => (event_any hw.he x hxe hxu).mono (by rw [hev]; rintro e w' ⟨rfl, h2⟩; exact ⟨rfl, hw.tn.trans h2⟩)) (fun a w hd hb => ⟨hd, by rw [← hB]; exact ⟨rfl, (Tn.of _ _ hu1).trans hb⟩⟩)
    | some s1 =>
      have hB : badAt need s1 (l.drop (j + 1)) (j + 1) = B := by rw [hev] at hnx; exact hnx
      refine wp_region_any hmx ?_
      refine wpAny_tabG (G := Unit) (fun g i__ => ([(.pointer (some ⟨p, 0, none⟩)), (.slice (some ⟨bb, oo, none⟩) l.length cap), (.pointer (some ⟨p, 0, none⟩)), (.pointer (some ⟨p, 0, none⟩)), (.pointer (some ⟨p, 1, none⟩)), (.int .i64 (j : Int)), (.pointer (some ⟨bb, oo + j * 15, none⟩)), (evV x), (.map (some M)), (.slice (some ⟨bb, oo, none⟩) l.length cap), (.pointer (some ⟨p, 0, none⟩)), (.pointer (some ⟨p, 0, none⟩)), (.pointer (some ⟨p, 1, none⟩)), (.int .i64 (j : Int)), (.pointer (some ⟨bb, oo + j * 15, none⟩)), (.pointer (some ⟨bb, oo + j * 15, none⟩)), (.int .i64 x.k), (lwV p x.k), (.tuple #[])] : List Value).getD i__ undef) (fun g d V => HR w1 p b M bb oo need l (if d 18 = true then (badAt need s1 (l.drop j) j) else B) j (if d 18 = true then s1 else s) V) (by kernel_rfl) (()) (show HR w1 p b M bb oo need l B j s _ from hH.carry (Below.refl _ _).drew) ?step7 ?fin7
      case step7 =>
        intro i o ho
        have hi : i < 19 := getElem?_lt ho
        match i, hi, ho with
        | 0, _, ho =>
          cases ho
          refine stepG_of (fun g d hdep => ?_)
          exact step_move rfl trivial _ rfl (by kernel_rfl)
        | 1, _, ho =>
          cases ho
          refine stepG_of (fun g d hdep => ?_)
          exact step_move rfl trivial _ rfl (by kernel_rfl)
        | 2, _, ho =>
          cases ho
          refine stepG_of (fun g d hdep => ?_)
          exact step_move rfl trivial _ rfl (by kernel_rfl)
        | 3, _, ho =>
          cases ho
          refine stepG_of (fun g d hdep => ?_)
          exact step_nilCheck rfl trivial _ _ _ rfl rfl rfl
        | 4, _, ho =>
          cases ho
          refine stepG_of (fun g d hdep => ?_)
          exact step_fieldAddr rfl trivial _ _ _ _ rfl rfl (fun w hw => faH1 w _ _)
        | 5, _, ho =>
          cases ho
          refine stepG_of (fun g d hdep => ?_)
          exact step_load rfl trivial _ _ _ rfl rfl (fun w hw => load_in ((cell_at hw.he.box 1).trans rfl))
        | 6, _, ho =>
          cases ho
          refine stepG_of (fun g d hdep => ?_)
          exact step_indexAddr rfl trivial _ _ _ _ _ rfl rfl rfl (fun w hw => idx_e bb oo l.length cap j (by omega) w)
        | 7, _, ho =>
          cases ho
          refine stepG_of (fun g d hdep => ?_)
          exact step_load rfl trivial _ _ _ rfl rfl (fun w hw => load_ev (fun i v hv => hw.rd j x hx i v hv))
        | 8, _, ho =>
          cases ho
          refine stepG_of (fun g d hdep => ?_)
          exact step_move rfl trivial _ rfl (by kernel_rfl)
        | 9, _, ho =>
          cases ho
          refine stepG_of (fun g d hdep => ?_)
          exact step_move rfl trivial _ rfl (by kernel_rfl)
        | 10, _, ho =>
          cases ho
          refine stepG_of (fun g d hdep => ?_)
          exact step_move rfl trivial _ rfl (by kernel_rfl)
        | 11, _, ho =>
          cases ho
          refine stepG_of (fun g d hdep => ?_)
          exact step_nilCheck rfl trivial _ _ _ rfl rfl rfl
        | 12, _, ho =>
          cases ho
          refine stepG_of (fun g d hdep => ?_)
          exact step_fieldAddr rfl trivial _ _ _ _ rfl rfl (fun w hw => faH1 w _ _)
        | 13, _, ho =>
          cases ho
          refine stepG_of (fun g d hdep => ?_)
          exact step_load rfl trivial _ _ _ rfl rfl (fun w hw => load_in ((cell_at hw.he.box 1).trans rfl))
        | 14, _, ho =>
          cases ho
          refine stepG_of (fun g d hdep => ?_)
          exact step_indexAddr rfl trivial _ _ _ _ _ rfl rfl rfl (fun w hw => idx_e bb oo l.length cap j (by omega) w)
        | 15, _, ho =>
          cases ho
          refine stepG_of (fun g d hdep => ?_)
          exact step_fieldAddr rfl trivial _ _ _ _ rfl rfl (fun w hw => faE0 w _ _)
        | 16, _, ho =>
          cases ho
          refine stepG_of (fun g d hdep => ?_)
          exact step_load rfl trivial _ _ _ rfl rfl (fun w hw => load_in (hw.rd j x hx 0 _ rfl))
        | 17, _, ho =>
          cases ho
          refine stepG_of (fun g d hdep => ?_)
          exact step_lookup rfl trivial _ _ _ _ _ _ rfl rfl rfl (fun w hw => look_ES hw.mp hwk)
        | 18, _, ho =>
          cases ho
          exact stepG_call rfl (fun _ => trivial) 95 _ _ (fun _ => [.pointer (some ⟨p, 0, none⟩), evV x, lwV p x.k]) rfl (fun g => by kernel_rfl) (enters_of Tryz.func95 (by kernel_rfl) rfl) (fun g d V hJ hun hdep hcl => by have hJ' := hJ; rw [hun] at hJ'; simp only [Bool.false_eq_true, if_false] at hJ'; refine (event_any hJ'.he x hxe hxu).mono ?_; rw [hev]; rintro e V' ⟨rfl, h1, h2⟩; refine ⟨g, rfl, fun j hj => rfl, ?_⟩; show HR w1 p b M bb oo need l (badAt need s1 (l.drop j) j) j s1 V'; exact hJ'.turn h2 j h1 hJ'.le rfl)
      intro g d W hall hW
      first | refine hK _ _ ?_ | refine (‹∀ (a : Act) (w : World), Code.wp Tryz.prog _ _ a w → _›) _ _ ?_ | skip
      simp only [finL, List.getD_cons_zero, List.getD_cons_succ, Nat.zero_add, Nat.reduceAdd, List.setIfInBounds_toArray, List.set_cons_zero, List.set_cons_succ]
      rw [hall 18 (by decide)] at hW
      simp only [if_true] at hW
      clear hall
      obtain ⟨W3, rfl⟩ : ∃ V, V = W := ⟨_, rfl⟩
      have hH3 := hH
      clear hH
      have hH := hW
      clear hW c1 z1
      have c1 : W3.cell? ⟨p, 1, none⟩ = some (.int .i64 (j : Int)) := (cell_at hH.he.box 1).trans rfl
      have z1 := hH.he.frz 1
      have ck : W3.cell? ⟨bb, oo + j * 15, none⟩ = some (.int .i64 x.k) := by have := hH.rd j x hx 0 _ rfl; rw [Nat.add_zero] at this; exact this
      have hHn : HR w1 p b M bb oo need l B (j + 1) s1 (W3.setCell ⟨p, 1, none⟩ (.int .i64 ((j : Int) + 1))) := hH.turn (Tn.put _ _ _ _ _) (j + 1) (hH.he.at _) (by omega) hB
      rcases evt_out hev hrow with ⟨hk3, hr3⟩ | ⟨hk3, hr3⟩
      case inr =>
        have HN : Hid (HR w1 p b M bb oo need l B (j + 1) s1 (W3.setCell ⟨p, 1, none⟩ (.int .i64 ((j : Int) + 1)))) := hHn
        clear hHn hH hH3 hev hnx hB
        go_wp2
        go_roundw
        case rel => exact ⟨j + 1, s1, hr3, HN⟩
        case measure => rw [atN_he HN.out.he, HA.out]; omega
      have HN : Hid (HR w1 p b M bb oo need l B (j + 1) s1 (W3.setCell ⟨p, 1, none⟩ (.int .i64 ((j : Int) + 1)))) := hHn
      clear hHn hH hH3 hev hnx hB hx hxe hxu hwk hrow
      go_wp2
      obtain ⟨W5, hW5⟩ : ∃ V, W3.setCell ⟨p, 1, none⟩ (.int .i64 ((j : Int) + 1)) = V := ⟨_, rfl⟩
      rw [hW5] at HN
      try rw [hW5]
      clear c1 z1 ck
      go_loopw [] (fun wz => ∃ (t : Nat) (s2 : Hs), s2.c.k = 3 ∧ j < t ∧ Hid (HR w1 p b M bb oo need l B t s2 wz)) (fun wz => l.length - atN p wz)
      case atStart => exact ⟨j + 1, s1, hr3, by omega, HN⟩
      case round =>
        clear HN hr3 s s1 hW5
        obtain ⟨t, s, hrow, hjt, HH⟩ := hrel
        have hH := HH.out
        clear HH
        have c1 : wr.cell? ⟨p, 1, none⟩ = some (.int .i64 (t : Int)) := (cell_at hH.he.box 1).trans rfl
        have z1 := hH.he.frz 1
        have HA2 : Hid (atN p wr = t) := atN_he hH.he
        clear hjl hji
        by_cases hjl : t < l.length
        case neg =>
          have hji : ¬ (t : Int) < (l.length : Int) := by omega
          have hmn := must_no hH.he
          have HF : Hid (HO B p b w (.panicked (off (t : Int))) wr) := by
            have hb := hH.bd
            rw [List.drop_eq_nil_of_le (by omega)] at hb
            unfold badAt at hb
            rw [if_pos (by simp [hrow])] at hb
            exact ⟨by rw [← hb], (Tn.of _ _ hu1).trans hH.tn⟩
          clear hH
          go_wp2_with (go_at_call 96; (with_reducible refine hmn.mono ?_); rintro e u3 ⟨rfl, hu3⟩; obtain rfl := hu3.symm)
          exact ⟨rfl, HF.out⟩
        have hji : (t : Int) < (l.length : Int) := by omega
        obtain ⟨x, hx⟩ : ∃ x, l[t]? = some x := ⟨_, List.getElem?_eq_getElem hjl⟩
        obtain ⟨hxe, hxu, hwk⟩ := hok x (List.mem_of_getElem? hx)
        have hnx := hH.next hx
        go_wp2
        cases hev : evt need s x with
        | none =>
          have hB : some t = B := by rw [hev] at hnx; exact hnx
          refine wp_region_any hmx ?_
          refine wpAny_dies 18 (fun i__ => ([(.pointer (some ⟨p, 0, none⟩)), (.slice (some ⟨bb, oo, none⟩) l.length cap), (.pointer (some ⟨p, 0, none⟩)), (.pointer (some ⟨p, 0, none⟩)), (.pointer (some ⟨p, 1, none⟩)), (.int .i64 (t : Int)), (.pointer (some ⟨bb, oo + t * 15, none⟩)), (evV x), (.map (some M)), (.slice (some ⟨bb, oo, none⟩) l.length cap), (.pointer (some ⟨p, 0, none⟩)), (.pointer (some ⟨p, 0, none⟩)), (.pointer (some ⟨p, 1, none⟩)), (.int .i64 (t : Int)), (.pointer (some ⟨bb, oo + t * 15, none⟩)), (.pointer (some ⟨bb, oo + t * 15, none⟩)), (.int .i64 x.k), (lwV p x.k), undef] : List Value).getD i__ undef) (fun V => HR w1 p b M bb oo need l B t s V) rfl (by kernel_rfl) (hH.carry (Below.refl _ _).drew) ?_ ?_
          · refine (stepsFrom_cons ?_ (stepsFrom_cons ?_ (stepsFrom_cons ?_ (stepsFrom_cons ?_ (stepsFrom_cons ?_ (stepsFrom_cons ?_ (stepsFrom_cons ?_ (stepsFrom_cons ?_ (stepsFrom_cons ?_ (stepsFrom_cons ?_ (stepsFrom_cons ?_ (stepsFrom_cons ?_ (stepsFrom_cons ?_ (stepsFrom_cons ?_ (stepsFrom_cons ?_ (stepsFrom_cons ?_ (stepsFrom_cons ?_ (stepsFrom_cons ?_ trivial))))))))))))))))))
            · exact step_move rfl trivial _ rfl (by kernel_rfl)
            · exact step_move rfl trivial _ rfl (by kernel_rfl)
            · exact step_move rfl trivial _ rfl (by kernel_rfl)
            · exact step_nilCheck rfl trivial _ _ _ rfl rfl rfl
            · exact step_fieldAddr rfl trivial _ _ _ _ rfl rfl (fun w hw => faH1 w _ _)
            · exact step_load rfl trivial _ _ _ rfl rfl (fun w hw => load_in ((cell_at hw.he.box 1).trans rfl))
            · exact step_indexAddr rfl trivial _ _ _ _ _ rfl rfl rfl (fun w hw => idx_e bb oo l.length cap t (by omega) w)
            · exact step_load rfl trivial _ _ _ rfl rfl (fun w hw => load_ev (fun i v hv => hw.rd t x hx i v hv))
            · exact step_move rfl trivial _ rfl (by kernel_rfl)
            · exact step_move rfl trivial _ rfl (by kernel_rfl)
            · exact step_move rfl trivial _ rfl (by kernel_rfl)
            · exact step_nilCheck rfl trivial _ _ _ rfl rfl rfl
            · exact step_fieldAddr rfl trivial _ _ _ _ rfl rfl (fun w hw => faH1 w _ _)
            · exact step_load rfl trivial _ _ _ rfl rfl (fun w hw => load_in ((cell_at hw.he.box 1).trans rfl))
            · exact step_indexAddr rfl trivial _ _ _ _ _ rfl rfl rfl (fun w hw => idx_e bb oo l.length cap t (by omega) w)
            · exact step_fieldAddr rfl trivial _ _ _ _ rfl rfl (fun w hw => faE0 w _ _)
            · exact step_load rfl trivial _ _ _ rfl rfl (fun w hw => load_in (hw.rd t x hx 0 _ rfl))
            · exact step_lookup rfl trivial _ _ _ _ _ _ rfl rfl rfl (fun w hw => look_ES hw.mp hwk)
          · intro o ho
            cases ho
            exact call_dies rfl trivial 95 _ _ [(.pointer (some ⟨p, 0, none⟩)), (evV x), (lwV p x.k)] rfl (by kernel_rfl) (enters_of Tryz.func95 (by kernel_rfl) rfl) (off (t : Int)) (J2 := fun V => Tn p (some b) (some b) w1 V) (fun w hw => (event_any hw.he x hxe hxu).mono (by rw [hev]; rintro e w' ⟨rfl, h2⟩; exact ⟨rfl, hw.tn.trans h2⟩)) (fun a w hd hb => ⟨hd, by rw [← hB]; exact ⟨rfl, (Tn.of _ _ hu1).trans hb⟩⟩)
        | some s1 =>
          have hB : badAt need s1 (l.drop (t + 1)) (t + 1) = B := by rw [hev] at hnx; exact hnx
          refine wp_region_any hmx ?_
          refine wpAny_tabG (G := Unit) (fun g i__ => ([(.pointer (some ⟨p, 0, none⟩)), (.slice (some ⟨bb, oo, none⟩) l.length cap), (.pointer (some ⟨p, 0, none⟩)), (.pointer (some ⟨p, 0, none⟩)), (.pointer (some ⟨p, 1, none⟩)), (.int .i64 (t : Int)), (.pointer (some ⟨bb, oo + t * 15, none⟩)), (evV x), (.map (some M)), (.slice (some ⟨bb, oo, none⟩) l.length cap), (.pointer (some ⟨p, 0, none⟩)), (.pointer (some ⟨p, 0, none⟩)), (.pointer (some ⟨p, 1, none⟩)), (.int .i64 (t : Int)), (.pointer (some ⟨bb, oo + t * 15, none⟩)), (.pointer (some ⟨bb, oo + t * 15, none⟩)), (.int .i64 x.k), (lwV p x.k), (.tuple #[])] : List Value).getD i__ undef) (fun g d V => HR w1 p b M bb oo need l (if d 18 = true then (badAt need s1 (l.drop t) t) else B) t (if d 18 = true then s1 else s) V) (by kernel_rfl) (()) (show HR w1 p b M bb oo need l B t s _ from hH.carry (Below.refl _ _).drew) ?step8 ?fin8
          case step8 =>
            intro i o ho
            have hi : i < 19 := getElem?_lt ho
            match i, hi, ho with
            | 0, _, ho =>
              cases ho
              refine stepG_of (fun g d hdep => ?_)
              exact step_move rfl trivial _ rfl (by kernel_rfl)
            | 1, _, ho =>
              cases ho
              refine stepG_of (fun g d hdep => ?_)
              exact step_move rfl trivial _ rfl (by kernel_rfl)
            | 2, _, ho =>
              cases ho
              refine stepG_of (fun g d hdep => ?_)
              exact step_move rfl trivial _ rfl (by kernel_rfl)
            | 3, _, ho =>
              cases ho
              refine stepG_of (fun g d hdep => ?_)
              exact step_nilCheck rfl trivial _ _ _ rfl rfl rfl
            | 4, _, ho =>
              cases ho
              refine stepG_of (fun g d hdep => ?_)
              exact step_fieldAddr rfl trivial _ _ _ _ rfl rfl (fun w hw => faH1 w _ _)
            | 5, _, ho =>
              cases ho
              refine stepG_of (fun g d hdep => ?_)
              exact step_load rfl trivial _ _ _ rfl rfl (fun w hw => load_in ((cell_at hw.he.box 1).trans rfl))
            | 6, _, ho =>
              cases ho
              refine stepG_of (fun g d hdep => ?_)
              exact step_indexAddr rfl trivial _ _ _ _ _ rfl rfl rfl (fun w hw => idx_e bb oo l.length cap t (by omega) w)
            | 7, _, ho =>
              cases ho
              refine stepG_of (fun g d hdep => ?_)
              exact step_load rfl trivial _ _ _ rfl rfl (fun w hw => load_ev (fun i v hv => hw.rd t x hx i v hv))
            | 8, _, ho =>
              cases ho
              refine stepG_of (fun g d hdep => ?_)
              exact step_move rfl trivial _ rfl (by kernel_rfl)
            | 9, _, ho =>
              cases ho
              refine stepG_of (fun g d hdep => ?_)
              exact step_move rfl trivial _ rfl (by kernel_rfl)
            | 10, _, ho =>
              cases ho
              refine stepG_of (fun g d hdep => ?_)
              exact step_move rfl trivial _ rfl (by kernel_rfl)
            | 11, _, ho =>
              cases ho
              refine stepG_of (fun g d hdep => ?_)
              exact step_nilCheck rfl trivial _ _ _ rfl rfl rfl
            | 12, _, ho =>
              cases ho
              refine stepG_of (fun g d hdep => ?_)
              exact step_fieldAddr rfl trivial _ _ _ _ rfl rfl (fun w hw => faH1 w _ _)
            | 13, _, ho =>
              cases ho
              refine stepG_of (fun g d hdep => ?_)
              exact step_load rfl trivial _ _ _ rfl rfl (fun w hw => load_in ((cell_at hw.he.box 1).trans rfl))
            | 14, _, ho =>
              cases ho
              refine stepG_of (fun g d hdep => ?_)
              exact step_indexAddr rfl trivial _ _ _ _ _ rfl rfl rfl (fun w hw => idx_e bb oo l.length cap t (by omega) w)
            | 15, _, ho =>
              cases ho
              refine stepG_of (fun g d hdep => ?_)
              exact step_fieldAddr rfl trivial _ _ _ _ rfl rfl (fun w hw => faE0 w _ _)
            | 16, _, ho =>
              cases ho
              refine stepG_of (fun g d hdep => ?_)
              exact step_load rfl trivial _ _ _ rfl rfl (fun w hw => load_in (hw.rd t x hx 0 _ rfl))
            | 17, _, ho =>
              cases ho
              refine stepG_of (fun g d hdep => ?_)
              exact step_lookup rfl trivial _ _ _ _ _ _ rfl rfl rfl (fun w hw => look_ES hw.mp hwk)
            | 18, _, ho =>
              cases ho
              exact stepG_call rfl (fun _ => trivial) 95 _ _ (fun _ => [.pointer (some ⟨p, 0, none⟩), evV x, lwV p x.k]) rfl (fun g => by kernel_rfl) (enters_of Tryz.func95 (by kernel_rfl) rfl) (fun g d V hJ hun hdep hcl => by have hJ' := hJ; rw [hun] at hJ'; simp only [Bool.false_eq_true, if_false] at hJ'; refine (event_any hJ'.he x hxe hxu).mono ?_; rw [hev]; rintro e V' ⟨rfl, h1, h2⟩; refine ⟨g, rfl, fun j hj => rfl, ?_⟩; show HR w1 p b M bb oo need l (badAt need s1 (l.drop t) t) t s1 V'; exact hJ'.turn h2 t h1 hJ'.le rfl)
          intro g d W hall hW
          first | refine hK _ _ ?_ | refine (‹∀ (a : Act) (w : World), Code.wp Tryz.prog _ _ a w → _›) _ _ ?_ | skip
          simp only [finL, List.getD_cons_zero, List.getD_cons_succ, Nat.zero_add, Nat.reduceAdd, List.setIfInBounds_toArray, List.set_cons_zero, List.set_cons_succ]
          rw [hall 18 (by decide)] at hW
          simp only [if_true] at hW
          clear hall
          obtain ⟨W3, rfl⟩ : ∃ V, V = W := ⟨_, rfl⟩
          have hH3 := hH
          clear hH
          have hH := hW
          clear hW c1 z1
          have c1 : W3.cell? ⟨p, 1, none⟩ = some (.int .i64 (t : Int)) := (cell_at hH.he.box 1).trans rfl
          have z1 := hH.he.frz 1
          have ck : W3.cell? ⟨bb, oo + t * 15, none⟩ = some (.int .i64 x.k) := by have := hH.rd t x hx 0 _ rfl; rw [Nat.add_zero] at this; exact this
          have HN : Hid (HR w1 p b M bb oo need l B (t + 1) s1 (W3.setCell ⟨p, 1, none⟩ (.int .i64 ((t : Int) + 1)))) := hH.turn (Tn.put _ _ _ _ _) (t + 1) (hH.he.at _) (by omega) hB
          rcases evt_row hev hrow with ⟨hk3, hr3⟩ | ⟨hk3, hr3⟩
          · clear hH hH3 hev hnx hB
            go_wp2
            go_roundw
            case rel => exact ⟨t + 1, s1, hr3, HN⟩
            case measure => rw [atN_he HN.out.he, HA.out]; omega
          · clear hH hH3 hev hnx hB
            have hk2 : ¬ x.k = 2 := by omega
            go_wp2
            go_roundw
            case rel => exact ⟨t + 1, s1, hr3, by omega, HN⟩
            case measure => rw [atN_he HN.out.he, HA2.out]; omega
end Go.Proofs.YtgnhainfcfcodaaGreat
