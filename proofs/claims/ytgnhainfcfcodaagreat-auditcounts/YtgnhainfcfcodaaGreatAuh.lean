/- audit.event: what it answers. -/
import Derived.Test.YtgnhainfcfcodaaGreatAue
import Derived.Test.YtgnhainfcfcodaaGreatAuf
import Derived.Test.YtgnhainfcfcodaaGreatAug
import Derived.Test.YtgnhainfcfcodaaGreatAud
namespace Go.Proofs.YtgnhainfcfcodaaGreat
open Go.RowKit Go.Shelf Go.Lib
attribute [local go_sem] Oper.semAt_some

theorem stepG_newT {G : Type} {md : Region.Mode} {ops : Array Oper} {Q : Exit → Act → World → Prop} {X0 : Array Value} {val : G → Nat → Value} {J : G → (Nat → Bool) → World → Prop} {i : Nat} {o : Oper} (hi : ops[i]? = some o) (hg : o.guard = none) (T : TypeId) (C : Array Value) (ho : o.op = .alloc T)
    (hr : ∀ W, (Instr.alloc T true (.tuple #[])).run Tryz.prog W = .ok (.pointer (some ⟨W.heap.size, 0, none⟩)) (W.alloc (.cells C T)))
    (h : ∀ g d W, J g d W → d i = false → (∀ j oj, ops[j]? = some oj → d j = true → ∀ k, bindsOn md oj k = true → d k = true) → ∃ g', (∀ j, d j = true → val g' j = val g j) ∧ val g' i = .pointer (some ⟨W.heap.size, 0, none⟩) ∧ J g' (fun j => if j = i then true else d j) (W.alloc (.cells C T))) : StepG Tryz.prog md ops Q X0 val J i o := by
  intro g d a W hJ hun _ hcl _
  obtain ⟨g', h1, h2, h3⟩ := h g d W hJ hun hcl
  unfold wpOp
  rw [hi]
  simp only [Region.wanted, hg, if_true]
  refine .inl ?_
  unfold Oper.wp execOp
  simp only [ho, Sem.run_bind, hr, Result.andThen_ok, Sem.run_pure, Oper.upon_value]
  exact ⟨g', h1, by rw [h2], h3⟩
theorem run_allocN (w : World) : (Instr.alloc 147 true (.tuple #[])).run Tryz.prog w = .ok (.pointer (some ⟨w.heap.size, 0, none⟩)) (w.alloc (.cells (nc n0).toArray 147)) := by go_simp; rfl
theorem load_nd {W : World} {p b : Nat} {need pl : Int} {s : Hs} {m : Nat} {u : Nod} (h : He W p b need pl s) (hm : s.nds[m]? = some u) : (Instr.loadAt 147 (.pointer (some ⟨b, m * 5, none⟩))).run Tryz.prog W = .ok (.agg (nc u).toArray) W := by
  have h0 := h.cn hm (j := 0) (v := .bool u.up) (by decide) rfl
  have h1 := h.cn hm (j := 1) (v := .int .i64 u.life) (by decide) rfl
  have h2 := h.cn hm (j := 2) (v := .int .i64 u.tag) (by decide) rfl
  have h3 := h.cn hm (j := 3) (v := .int .i64 u.op) (by decide) rfl
  have h4 := h.cn hm (j := 4) (v := .int .i64 u.ask) (by decide) rfl
  rw [Nat.add_zero] at h0
  unfold nc
  go_simp
theorem info_nd : (Tryz.prog.info? 147).map (·.size) = some 5 := by kernel_rfl
theorem nc_one (u : Nod) : ∀ v ∈ nc u, v.oneCell' = true := by
  intro v hv
  simp only [nc, List.mem_cons, List.not_mem_nil, or_false] at hv
  rcases hv with h | h | h | h | h <;> subst h <;> rfl
theorem neqF (x y : Operand) (f : Nat) (a : Value) (w : World) : binRun Tryz.prog .neq 142 x y (.func (.func f) #[a] #[]) .nilFunc w = .ok (.bool true) w := by
  kernel_rfl
theorem neqN (x y : Operand) (w : World) : binRun Tryz.prog .neq 142 x y .nilFunc .nilFunc w = .ok (.bool false) w := by
  kernel_rfl
theorem bare_lt {x : Ev} (h1 : x.he < S128) (h2 : x.un < S128) : (bareE x).he < S128 ∧ (bareE x).un < S128 := by
  have h0 : 0 < S128 := by decide
  unfold bareE
  split
  · exact ⟨h0, h0⟩
  split
  · exact ⟨h0, h0⟩
  split
  · exact ⟨h1, h2⟩
  split
  · exact ⟨h0, h0⟩
  split
  · exact ⟨h0, h0⟩
  · exact ⟨h0, h0⟩
theorem must_noB {p g : Nat} {need pl : Int} {s : Hs} {w : World} (h : He w p g need pl s) (q : Bool) (hq : q = false) : Calls Tryz.prog 96 #[.pointer (some ⟨p, 0, none⟩), .bool q] w fun e w' => e = .panicked (off pl) ∧ w' = w := by
  subst hq
  exact must_no h
theorem must_yesB (p : Nat) (q : Bool) (hq : q = true) (w : World) : Calls Tryz.prog 96 #[.pointer (some ⟨p, 0, none⟩), .bool q] w fun e w' => e = .returned (.tuple #[]) ∧ w' = w := by
  subst hq
  exact must_yes p w
/-- What an event turns; r: what its kind's law answers. -/
def evtF (s : Hs) (x : Ev) (r : Nat → Nod → Option Hs) : Option Hs :=
  if decide (0 ≤ x.nd ∧ x.nd < (s.nds.length : Int)) && (decide (x.li ≥ 1) && decide (x.li ≤ 1073741824)) then (if eqEv x (bareE x) then (if fol s x then (match s.nds[x.nd.toNat]? with | none => none | some u => if (x.k == 1) || (u.up && (u.life == x.li)) then r x.nd.toNat u else none) else none) else none) else none
structure JN (w : World) (p b q : Nat) (need pl : Int) (s : Hs) (x : Ev) (u : Nod) (g : Nat) (d8 d9 : Bool) (V : World) : Prop where
  jb : JB w p b q need pl s x V
  bn : d8 = true → w.heap.size ≤ g ∧ g ≠ p ∧ g ≠ b ∧ g ≠ q ∧ V.heap[g]? = some (.cells (nc (if d9 = true then u else n0)).toArray 147 (0, 0))
theorem JB.off {w V : World} {p b q g : Nat} {need pl : Int} {s : Hs} {x : Ev} (h : JB w p b q need pl s x V) (h1 : w.heap.size ≤ g) (hp : g ≠ p) (hb : g ≠ b) (hq : g ≠ q) (cs : Array Value) : JB w p b q need pl s x (V.setRow g cs) :=
  ⟨⟨(setRow_other V g p _ (fun e => hp e.symm)).trans h.he.box, (setRow_other V g b _ (fun e => hb e.symm)).trans h.he.nod, h.he.ne⟩, (setRow_other V g q _ (fun e => hq e.symm)).trans h.bx, ⟨h.tn.os, h.tn.tape, h.tn.output, by simpa [World.setRow] using h.tn.size, fun k hk k1 k2 => (setRow_other V g k _ (by omega)).trans (h.tn.block k hk k1 k2), .inl rfl⟩⟩
set_option maxHeartbeats 4000000 in
set_option maxRecDepth 100000 in
theorem event_nil {w : World} {p b : Nat} {need pl : Int} {s : Hs} (h : He w p b need pl s) (x : Ev) : Calls Tryz.prog 95 #[.pointer (some ⟨p, 0, none⟩), evV x, .nilFunc] w (Lw p b need pl w none) := by
  have hmx : Tryz.prog.follows .mixedOrders = true := by kernel_rfl
  have hJ0 := JB.new h x
  unfold evV ecA
  go_enter Tryz.func95, Tryz.ntmps95
  go_wp2
  refine wp_region_any hmx ?_
  refine wpAny_dies 23 (fun i__ => ([(.pointer (some ⟨p, 0, none⟩)), .nilFunc, (.bool false), (.bool false), undef, undef, undef, undef, undef, undef, undef, undef, (.bool false), (.bool false), undef, undef, undef, (.bool false), (.bool false), undef, undef, undef, (.bool false), undef] : List Value).getD i__ undef) (fun V => JB w p b w.heap.size need pl s x V) rfl (by kernel_rfl) (hJ0.carry (Below.refl _ _).drew) ?_ ?_
  · refine (stepsFrom_cons ?_ (stepsFrom_cons ?_ (stepsFrom_cons ?_ (stepsFrom_cons ?_ (stepsFrom_cons ?_ (stepsFrom_cons ?_ (stepsFrom_cons ?_ (stepsFrom_cons ?_ (stepsFrom_cons ?_ (stepsFrom_cons ?_ (stepsFrom_cons ?_ (stepsFrom_cons ?_ (stepsFrom_cons ?_ (stepsFrom_cons ?_ (stepsFrom_cons ?_ (stepsFrom_cons ?_ (stepsFrom_cons ?_ (stepsFrom_cons ?_ (stepsFrom_cons ?_ (stepsFrom_cons ?_ (stepsFrom_cons ?_ (stepsFrom_cons ?_ (stepsFrom_cons ?_ trivial)))))))))))))))))))))))
    · exact step_move rfl trivial _ rfl (by kernel_rfl)
    · exact step_move rfl trivial _ rfl (by kernel_rfl)
    · exact step_binOp rfl trivial _ _ _ _ _ _ _ rfl rfl rfl (fun w hw => neqN _ _ w)
    · exact step_move rfl trivial _ rfl (by kernel_rfl)
    · exact step_skip rfl 3 true 10 (.bool false) rfl rfl (by kernel_rfl) (by intro h; cases h) rfl
    · exact step_skip rfl 3 true 10 (.bool false) rfl rfl (by kernel_rfl) (by intro h; cases h) rfl
    · exact step_skip rfl 3 true 10 (.bool false) rfl rfl (by kernel_rfl) (by intro h; cases h) rfl
    · exact step_skip rfl 3 true 10 (.bool false) rfl rfl (by kernel_rfl) (by intro h; cases h) rfl
    · exact step_skip rfl 3 true 10 (.bool false) rfl rfl (by kernel_rfl) (by intro h; cases h) rfl
    · exact step_skip rfl 3 true 10 (.bool false) rfl rfl (by kernel_rfl) (by intro h; cases h) rfl
    · exact step_skip rfl 3 true 10 (.bool false) rfl rfl (by kernel_rfl) (by intro h; cases h) rfl
    · exact step_skip rfl 3 true 10 (.bool false) rfl rfl (by kernel_rfl) (by intro h; cases h) rfl
    · exact step_pick rfl trivial _ _ _ false rfl (by kernel_rfl) (by kernel_rfl)
    · exact step_move rfl trivial _ rfl (by kernel_rfl)
    · exact step_skip rfl 13 true 20 (.bool false) rfl rfl (by kernel_rfl) (by intro h; cases h) rfl
    · exact step_skip rfl 13 true 20 (.bool false) rfl rfl (by kernel_rfl) (by intro h; cases h) rfl
    · exact step_skip rfl 13 true 20 (.bool false) rfl rfl (by kernel_rfl) (by intro h; cases h) rfl
    · exact step_pick rfl trivial _ _ _ false rfl (by kernel_rfl) (by kernel_rfl)
    · exact step_move rfl trivial _ rfl (by kernel_rfl)
    · exact step_skip rfl 18 true 25 (.bool false) rfl rfl (by kernel_rfl) (by intro h; cases h) rfl
    · exact step_skip rfl 18 true 25 (.bool false) rfl rfl (by kernel_rfl) (by intro h; cases h) rfl
    · exact step_skip rfl 18 true 25 (.bool false) rfl rfl (by kernel_rfl) (by intro h; cases h) rfl
    · exact step_pick rfl trivial _ _ _ false rfl (by kernel_rfl) (by kernel_rfl)
  · intro o ho
    cases ho
    exact call_dies rfl trivial 96 _ _ [(.pointer (some ⟨p, 0, none⟩)), (.bool false)] rfl (by kernel_rfl) (enters_of Tryz.func96 (by kernel_rfl) rfl) (off pl) (J2 := fun V => Tn p (some b) (some b) w V) (fun w hw => (must_no hw.he).mono (by rintro e w' ⟨rfl, rfl⟩; exact ⟨rfl, hw.tn⟩)) (fun a w hd hb => ⟨hd, lw_no rfl hb⟩)
set_option maxHeartbeats 4000000 in
set_option maxRecDepth 100000 in
theorem event_fn {w : World} {p b : Nat} {need pl : Int} {s : Hs} (h : He w p b need pl s) (x : Ev) (hhe : x.he < S128) (hun : x.un < S128) (f : Nat) (r : Nat → Nod → Option Hs) (hf : f = 97 ∨ f = 98 ∨ f = 99 ∨ f = 100 ∨ f = 101 ∨ f = 102)
    (hlaw : ∀ u, s.nds[x.nd.toNat]? = some u → x.nd = (x.nd.toNat : Int) → ∀ V, He V p b need pl s → Calls Tryz.prog f #[.pointer (some ⟨p, 0, none⟩), evV x] V (Lw p b need pl V (r x.nd.toNat u))) :
    Calls Tryz.prog 95 #[.pointer (some ⟨p, 0, none⟩), evV x, (.func (.func f) #[.pointer (some ⟨p, 0, none⟩)] #[])] w (Lw p b need pl w (evtF s x r)) := by
  have hmx : Tryz.prog.follows .mixedOrders = true := by kernel_rfl
  have hJ0 := JB.new h x
  obtain ⟨xv, hxv⟩ : ∃ xv, evV x = xv := ⟨_, rfl⟩
  have HV : Hid (evV x = xv) := hxv
  have hJ0' := hJ0
  unfold evV ecA at hxv
  rw [show evV x = .agg (ecA x) from rfl]
  unfold ecA
  clear hxv
  go_enter Tryz.func95, Tryz.ntmps95
  go_wp2
  rename_i hK
  cases h1_0 : decide (0 ≤ x.nd ∧ x.nd < (s.nds.length : Int)) with
  | false =>
    refine wp_region_any hmx ?_
    refine wpAny_dies 23 (fun i__ => ([(.pointer (some ⟨p, 0, none⟩)), (.func (.func f) #[.pointer (some ⟨p, 0, none⟩)] #[]), (.bool true), (.bool true), (.pointer (some ⟨w.heap.size, 1, none⟩)), (.int .i64 x.nd), (.pointer (some ⟨p, 0, none⟩)), (.pointer (some ⟨p, 0, none⟩)), (.pointer (some ⟨p, 2, none⟩)), (.slice (some ⟨b, 0, none⟩) s.nds.length s.nds.length), (.int .i64 (s.nds.length : Int)), (.bool false), (.bool false), (.bool false), undef, undef, undef, (.bool false), (.bool false), undef, undef, undef, (.bool false), undef] : List Value).getD i__ undef) (fun V => JB w p b w.heap.size need pl s x V) rfl (by kernel_rfl) (hJ0.carry (Below.refl _ _).drew) ?_ ?_
    · refine (stepsFrom_cons ?_ (stepsFrom_cons ?_ (stepsFrom_cons ?_ (stepsFrom_cons ?_ (stepsFrom_cons ?_ (stepsFrom_cons ?_ (stepsFrom_cons ?_ (stepsFrom_cons ?_ (stepsFrom_cons ?_ (stepsFrom_cons ?_ (stepsFrom_cons ?_ (stepsFrom_cons ?_ (stepsFrom_cons ?_ (stepsFrom_cons ?_ (stepsFrom_cons ?_ (stepsFrom_cons ?_ (stepsFrom_cons ?_ (stepsFrom_cons ?_ (stepsFrom_cons ?_ (stepsFrom_cons ?_ (stepsFrom_cons ?_ (stepsFrom_cons ?_ (stepsFrom_cons ?_ trivial)))))))))))))))))))))))
      · exact step_move rfl trivial _ rfl (by kernel_rfl)
      · exact step_move rfl trivial _ rfl (by kernel_rfl)
      · exact step_binOp rfl trivial _ _ _ _ _ _ _ rfl rfl rfl (fun w hw => neqF _ _ _ _ w)
      · exact step_move rfl trivial _ rfl (by kernel_rfl)
      · exact step_fieldAddr rfl (by exact ⟨_, rfl, by kernel_rfl⟩) _ _ _ _ rfl rfl (fun w hw => faE1 w _ _)
      · exact step_load rfl (by exact ⟨_, rfl, by kernel_rfl⟩) _ _ _ rfl rfl (fun w hw => load_in ((cell_at hw.bx 1).trans rfl))
      · exact step_move rfl (by exact ⟨_, rfl, by kernel_rfl⟩) _ rfl (by kernel_rfl)
      · exact step_nilCheck rfl (by exact ⟨_, rfl, by kernel_rfl⟩) _ _ _ rfl rfl rfl
      · exact step_fieldAddr rfl (by exact ⟨_, rfl, by kernel_rfl⟩) _ _ _ _ rfl rfl (fun w hw => faH2 w _ _)
      · exact step_load rfl (by exact ⟨_, rfl, by kernel_rfl⟩) _ _ _ rfl rfl (fun w hw => load_ns ((cell_at hw.he.box 2).trans rfl))
      · exact step_bi rfl (by exact ⟨_, rfl, by kernel_rfl⟩) _ _ _ [(.slice (some ⟨b, 0, none⟩) s.nds.length s.nds.length)] rfl (by kernel_rfl) (fun cs w hw => bi_lenN _ cs _ _ _ w)
      · exact step_call rfl (by exact ⟨_, rfl, by kernel_rfl⟩) 18 _ _ [(.int .i64 x.nd), (.int .i64 (s.nds.length : Int))] rfl (by kernel_rfl) (enters_of Tryz.func18 (by kernel_rfl) rfl) (fun w hw => (isBelow_any _ _ w).mono (by rintro e w' ⟨rfl, rfl⟩; exact ⟨congrArg (fun z => Ending.returned (Value.bool z)) h1_0, hw⟩))
      · exact step_pick rfl trivial _ _ _ true rfl (by kernel_rfl) (by kernel_rfl)
      · exact step_move rfl trivial _ rfl (by kernel_rfl)
      · exact step_skip rfl 13 true 20 (.bool false) rfl rfl (by kernel_rfl) (by intro h; cases h) rfl
      · exact step_skip rfl 13 true 20 (.bool false) rfl rfl (by kernel_rfl) (by intro h; cases h) rfl
      · exact step_skip rfl 13 true 20 (.bool false) rfl rfl (by kernel_rfl) (by intro h; cases h) rfl
      · exact step_pick rfl trivial _ _ _ false rfl (by kernel_rfl) (by kernel_rfl)
      · exact step_move rfl trivial _ rfl (by kernel_rfl)
      · exact step_skip rfl 18 true 25 (.bool false) rfl rfl (by kernel_rfl) (by intro h; cases h) rfl
      · exact step_skip rfl 18 true 25 (.bool false) rfl rfl (by kernel_rfl) (by intro h; cases h) rfl
      · exact step_skip rfl 18 true 25 (.bool false) rfl rfl (by kernel_rfl) (by intro h; cases h) rfl
      · exact step_pick rfl trivial _ _ _ false rfl (by kernel_rfl) (by kernel_rfl)
    · intro o ho
      cases ho
      exact call_dies rfl trivial 96 _ _ [(.pointer (some ⟨p, 0, none⟩)), (.bool false)] rfl (by kernel_rfl) (enters_of Tryz.func96 (by kernel_rfl) rfl) (off pl) (J2 := fun V => Tn p (some b) (some b) w V) (fun w hw => (must_no hw.he).mono (by rintro e w' ⟨rfl, rfl⟩; exact ⟨rfl, hw.tn⟩)) (fun a w hd hb => ⟨hd, lw_no (by simp only [evtF, h1_0]; rfl) hb⟩)
  | true =>
    cases h1_1 : decide (x.li ≥ 1) with
    | false =>
      refine wp_region_any hmx ?_
      refine wpAny_dies 23 (fun i__ => ([(.pointer (some ⟨p, 0, none⟩)), (.func (.func f) #[.pointer (some ⟨p, 0, none⟩)] #[]), (.bool true), (.bool true), (.pointer (some ⟨w.heap.size, 1, none⟩)), (.int .i64 x.nd), (.pointer (some ⟨p, 0, none⟩)), (.pointer (some ⟨p, 0, none⟩)), (.pointer (some ⟨p, 2, none⟩)), (.slice (some ⟨b, 0, none⟩) s.nds.length s.nds.length), (.int .i64 (s.nds.length : Int)), (.bool true), (.bool true), (.bool true), (.pointer (some ⟨w.heap.size, 2, none⟩)), (.int .i64 x.li), (.bool false), (.bool false), (.bool false), undef, undef, undef, (.bool false), undef] : List Value).getD i__ undef) (fun V => JB w p b w.heap.size need pl s x V) rfl (by kernel_rfl) (hJ0.carry (Below.refl _ _).drew) ?_ ?_
      · refine (stepsFrom_cons ?_ (stepsFrom_cons ?_ (stepsFrom_cons ?_ (stepsFrom_cons ?_ (stepsFrom_cons ?_ (stepsFrom_cons ?_ (stepsFrom_cons ?_ (stepsFrom_cons ?_ (stepsFrom_cons ?_ (stepsFrom_cons ?_ (stepsFrom_cons ?_ (stepsFrom_cons ?_ (stepsFrom_cons ?_ (stepsFrom_cons ?_ (stepsFrom_cons ?_ (stepsFrom_cons ?_ (stepsFrom_cons ?_ (stepsFrom_cons ?_ (stepsFrom_cons ?_ (stepsFrom_cons ?_ (stepsFrom_cons ?_ (stepsFrom_cons ?_ (stepsFrom_cons ?_ trivial)))))))))))))))))))))))
        · exact step_move rfl trivial _ rfl (by kernel_rfl)
        · exact step_move rfl trivial _ rfl (by kernel_rfl)
        · exact step_binOp rfl trivial _ _ _ _ _ _ _ rfl rfl rfl (fun w hw => neqF _ _ _ _ w)
        · exact step_move rfl trivial _ rfl (by kernel_rfl)
        · exact step_fieldAddr rfl (by exact ⟨_, rfl, by kernel_rfl⟩) _ _ _ _ rfl rfl (fun w hw => faE1 w _ _)
        · exact step_load rfl (by exact ⟨_, rfl, by kernel_rfl⟩) _ _ _ rfl rfl (fun w hw => load_in ((cell_at hw.bx 1).trans rfl))
        · exact step_move rfl (by exact ⟨_, rfl, by kernel_rfl⟩) _ rfl (by kernel_rfl)
        · exact step_nilCheck rfl (by exact ⟨_, rfl, by kernel_rfl⟩) _ _ _ rfl rfl rfl
        · exact step_fieldAddr rfl (by exact ⟨_, rfl, by kernel_rfl⟩) _ _ _ _ rfl rfl (fun w hw => faH2 w _ _)
        · exact step_load rfl (by exact ⟨_, rfl, by kernel_rfl⟩) _ _ _ rfl rfl (fun w hw => load_ns ((cell_at hw.he.box 2).trans rfl))
        · exact step_bi rfl (by exact ⟨_, rfl, by kernel_rfl⟩) _ _ _ [(.slice (some ⟨b, 0, none⟩) s.nds.length s.nds.length)] rfl (by kernel_rfl) (fun cs w hw => bi_lenN _ cs _ _ _ w)
        · exact step_call rfl (by exact ⟨_, rfl, by kernel_rfl⟩) 18 _ _ [(.int .i64 x.nd), (.int .i64 (s.nds.length : Int))] rfl (by kernel_rfl) (enters_of Tryz.func18 (by kernel_rfl) rfl) (fun w hw => (isBelow_any _ _ w).mono (by rintro e w' ⟨rfl, rfl⟩; exact ⟨congrArg (fun z => Ending.returned (Value.bool z)) h1_0, hw⟩))
        · exact step_pick rfl trivial _ _ _ true rfl (by kernel_rfl) (by kernel_rfl)
        · exact step_move rfl trivial _ rfl (by kernel_rfl)
        · exact step_fieldAddr rfl (by exact ⟨_, rfl, by kernel_rfl⟩) _ _ _ _ rfl rfl (fun w hw => faE2 w _ _)
        · exact step_load rfl (by exact ⟨_, rfl, by kernel_rfl⟩) _ _ _ rfl rfl (fun w hw => load_in ((cell_at hw.bx 2).trans rfl))
        · exact step_binOp rfl (by exact ⟨_, rfl, by kernel_rfl⟩) _ _ _ _ _ _ _ rfl rfl rfl (fun w hw => by rw [← h1_1]; exact bin_geq _ _ _)
        · exact step_pick rfl trivial _ _ _ true rfl (by kernel_rfl) (by kernel_rfl)
        · exact step_move rfl trivial _ rfl (by kernel_rfl)
        · exact step_skip rfl 18 true 25 (.bool false) rfl rfl (by kernel_rfl) (by intro h; cases h) rfl
        · exact step_skip rfl 18 true 25 (.bool false) rfl rfl (by kernel_rfl) (by intro h; cases h) rfl
        · exact step_skip rfl 18 true 25 (.bool false) rfl rfl (by kernel_rfl) (by intro h; cases h) rfl
        · exact step_pick rfl trivial _ _ _ false rfl (by kernel_rfl) (by kernel_rfl)
      · intro o ho
        cases ho
        exact call_dies rfl trivial 96 _ _ [(.pointer (some ⟨p, 0, none⟩)), (.bool false)] rfl (by kernel_rfl) (enters_of Tryz.func96 (by kernel_rfl) rfl) (off pl) (J2 := fun V => Tn p (some b) (some b) w V) (fun w hw => (must_no hw.he).mono (by rintro e w' ⟨rfl, rfl⟩; exact ⟨rfl, hw.tn⟩)) (fun a w hd hb => ⟨hd, lw_no (by simp only [evtF, h1_0, h1_1]; rfl) hb⟩)
    | true =>
      cases h1_2 : decide (x.li ≤ 1073741824) with
      | false =>
        refine wp_region_any hmx ?_
        refine wpAny_dies 23 (fun i__ => ([(.pointer (some ⟨p, 0, none⟩)), (.func (.func f) #[.pointer (some ⟨p, 0, none⟩)] #[]), (.bool true), (.bool true), (.pointer (some ⟨w.heap.size, 1, none⟩)), (.int .i64 x.nd), (.pointer (some ⟨p, 0, none⟩)), (.pointer (some ⟨p, 0, none⟩)), (.pointer (some ⟨p, 2, none⟩)), (.slice (some ⟨b, 0, none⟩) s.nds.length s.nds.length), (.int .i64 (s.nds.length : Int)), (.bool true), (.bool true), (.bool true), (.pointer (some ⟨w.heap.size, 2, none⟩)), (.int .i64 x.li), (.bool true), (.bool true), (.bool true), (.pointer (some ⟨w.heap.size, 2, none⟩)), (.int .i64 x.li), (.bool false), (.bool false), undef] : List Value).getD i__ undef) (fun V => JB w p b w.heap.size need pl s x V) rfl (by kernel_rfl) (hJ0.carry (Below.refl _ _).drew) ?_ ?_
        · refine (stepsFrom_cons ?_ (stepsFrom_cons ?_ (stepsFrom_cons ?_ (stepsFrom_cons ?_ (stepsFrom_cons ?_ (stepsFrom_cons ?_ (stepsFrom_cons ?_ (stepsFrom_cons ?_ (stepsFrom_cons ?_ (stepsFrom_cons ?_ (stepsFrom_cons ?_ (stepsFrom_cons ?_ (stepsFrom_cons ?_ (stepsFrom_cons ?_ (stepsFrom_cons ?_ (stepsFrom_cons ?_ (stepsFrom_cons ?_ (stepsFrom_cons ?_ (stepsFrom_cons ?_ (stepsFrom_cons ?_ (stepsFrom_cons ?_ (stepsFrom_cons ?_ (stepsFrom_cons ?_ trivial)))))))))))))))))))))))
          · exact step_move rfl trivial _ rfl (by kernel_rfl)
          · exact step_move rfl trivial _ rfl (by kernel_rfl)
          · exact step_binOp rfl trivial _ _ _ _ _ _ _ rfl rfl rfl (fun w hw => neqF _ _ _ _ w)
          · exact step_move rfl trivial _ rfl (by kernel_rfl)
          · exact step_fieldAddr rfl (by exact ⟨_, rfl, by kernel_rfl⟩) _ _ _ _ rfl rfl (fun w hw => faE1 w _ _)
          · exact step_load rfl (by exact ⟨_, rfl, by kernel_rfl⟩) _ _ _ rfl rfl (fun w hw => load_in ((cell_at hw.bx 1).trans rfl))
          · exact step_move rfl (by exact ⟨_, rfl, by kernel_rfl⟩) _ rfl (by kernel_rfl)
          · exact step_nilCheck rfl (by exact ⟨_, rfl, by kernel_rfl⟩) _ _ _ rfl rfl rfl
          · exact step_fieldAddr rfl (by exact ⟨_, rfl, by kernel_rfl⟩) _ _ _ _ rfl rfl (fun w hw => faH2 w _ _)
          · exact step_load rfl (by exact ⟨_, rfl, by kernel_rfl⟩) _ _ _ rfl rfl (fun w hw => load_ns ((cell_at hw.he.box 2).trans rfl))
          · exact step_bi rfl (by exact ⟨_, rfl, by kernel_rfl⟩) _ _ _ [(.slice (some ⟨b, 0, none⟩) s.nds.length s.nds.length)] rfl (by kernel_rfl) (fun cs w hw => bi_lenN _ cs _ _ _ w)
          · exact step_call rfl (by exact ⟨_, rfl, by kernel_rfl⟩) 18 _ _ [(.int .i64 x.nd), (.int .i64 (s.nds.length : Int))] rfl (by kernel_rfl) (enters_of Tryz.func18 (by kernel_rfl) rfl) (fun w hw => (isBelow_any _ _ w).mono (by rintro e w' ⟨rfl, rfl⟩; exact ⟨congrArg (fun z => Ending.returned (Value.bool z)) h1_0, hw⟩))
          · exact step_pick rfl trivial _ _ _ true rfl (by kernel_rfl) (by kernel_rfl)
          · exact step_move rfl trivial _ rfl (by kernel_rfl)
          · exact step_fieldAddr rfl (by exact ⟨_, rfl, by kernel_rfl⟩) _ _ _ _ rfl rfl (fun w hw => faE2 w _ _)
          · exact step_load rfl (by exact ⟨_, rfl, by kernel_rfl⟩) _ _ _ rfl rfl (fun w hw => load_in ((cell_at hw.bx 2).trans rfl))
          · exact step_binOp rfl (by exact ⟨_, rfl, by kernel_rfl⟩) _ _ _ _ _ _ _ rfl rfl rfl (fun w hw => by rw [← h1_1]; exact bin_geq _ _ _)
          · exact step_pick rfl trivial _ _ _ true rfl (by kernel_rfl) (by kernel_rfl)
          · exact step_move rfl trivial _ rfl (by kernel_rfl)
          · exact step_fieldAddr rfl (by exact ⟨_, rfl, by kernel_rfl⟩) _ _ _ _ rfl rfl (fun w hw => faE2 w _ _)
          · exact step_load rfl (by exact ⟨_, rfl, by kernel_rfl⟩) _ _ _ rfl rfl (fun w hw => load_in ((cell_at hw.bx 2).trans rfl))
          · exact step_binOp rfl (by exact ⟨_, rfl, by kernel_rfl⟩) _ _ _ _ _ _ _ rfl rfl rfl (fun w hw => by rw [← h1_2]; exact bin_leq _ _ _)
          · exact step_pick rfl trivial _ _ _ true rfl (by kernel_rfl) (by kernel_rfl)
        · intro o ho
          cases ho
          exact call_dies rfl trivial 96 _ _ [(.pointer (some ⟨p, 0, none⟩)), (.bool false)] rfl (by kernel_rfl) (enters_of Tryz.func96 (by kernel_rfl) rfl) (off pl) (J2 := fun V => Tn p (some b) (some b) w V) (fun w hw => (must_no hw.he).mono (by rintro e w' ⟨rfl, rfl⟩; exact ⟨rfl, hw.tn⟩)) (fun a w hd hb => ⟨hd, lw_no (by simp only [evtF, h1_0, h1_1, h1_2]; rfl) hb⟩)
      | true =>
        refine wp_region_any hmx ?_
        refine wpAny_pure (fun i__ => ([(.pointer (some ⟨p, 0, none⟩)), (.func (.func f) #[.pointer (some ⟨p, 0, none⟩)] #[]), (.bool true), (.bool true), (.pointer (some ⟨w.heap.size, 1, none⟩)), (.int .i64 x.nd), (.pointer (some ⟨p, 0, none⟩)), (.pointer (some ⟨p, 0, none⟩)), (.pointer (some ⟨p, 2, none⟩)), (.slice (some ⟨b, 0, none⟩) s.nds.length s.nds.length), (.int .i64 (s.nds.length : Int)), (.bool true), (.bool true), (.bool true), (.pointer (some ⟨w.heap.size, 2, none⟩)), (.int .i64 x.li), (.bool true), (.bool true), (.bool true), (.pointer (some ⟨w.heap.size, 2, none⟩)), (.int .i64 x.li), (.bool true), (.bool true), (.tuple #[])] : List Value).getD i__ undef) (fun V => JB w p b w.heap.size need pl s x V) (by kernel_rfl) (hJ0.carry (Below.refl _ _).drew) ?_ ?_
        · refine (stepsFrom_cons ?_ (stepsFrom_cons ?_ (stepsFrom_cons ?_ (stepsFrom_cons ?_ (stepsFrom_cons ?_ (stepsFrom_cons ?_ (stepsFrom_cons ?_ (stepsFrom_cons ?_ (stepsFrom_cons ?_ (stepsFrom_cons ?_ (stepsFrom_cons ?_ (stepsFrom_cons ?_ (stepsFrom_cons ?_ (stepsFrom_cons ?_ (stepsFrom_cons ?_ (stepsFrom_cons ?_ (stepsFrom_cons ?_ (stepsFrom_cons ?_ (stepsFrom_cons ?_ (stepsFrom_cons ?_ (stepsFrom_cons ?_ (stepsFrom_cons ?_ (stepsFrom_cons ?_ (stepsFrom_cons ?_ trivial))))))))))))))))))))))))
          · exact step_move rfl trivial _ rfl (by kernel_rfl)
          · exact step_move rfl trivial _ rfl (by kernel_rfl)
          · exact step_binOp rfl trivial _ _ _ _ _ _ _ rfl rfl rfl (fun w hw => neqF _ _ _ _ w)
          · exact step_move rfl trivial _ rfl (by kernel_rfl)
          · exact step_fieldAddr rfl (by exact ⟨_, rfl, by kernel_rfl⟩) _ _ _ _ rfl rfl (fun w hw => faE1 w _ _)
          · exact step_load rfl (by exact ⟨_, rfl, by kernel_rfl⟩) _ _ _ rfl rfl (fun w hw => load_in ((cell_at hw.bx 1).trans rfl))
          · exact step_move rfl (by exact ⟨_, rfl, by kernel_rfl⟩) _ rfl (by kernel_rfl)
          · exact step_nilCheck rfl (by exact ⟨_, rfl, by kernel_rfl⟩) _ _ _ rfl rfl rfl
          · exact step_fieldAddr rfl (by exact ⟨_, rfl, by kernel_rfl⟩) _ _ _ _ rfl rfl (fun w hw => faH2 w _ _)
          · exact step_load rfl (by exact ⟨_, rfl, by kernel_rfl⟩) _ _ _ rfl rfl (fun w hw => load_ns ((cell_at hw.he.box 2).trans rfl))
          · exact step_bi rfl (by exact ⟨_, rfl, by kernel_rfl⟩) _ _ _ [(.slice (some ⟨b, 0, none⟩) s.nds.length s.nds.length)] rfl (by kernel_rfl) (fun cs w hw => bi_lenN _ cs _ _ _ w)
          · exact step_call rfl (by exact ⟨_, rfl, by kernel_rfl⟩) 18 _ _ [(.int .i64 x.nd), (.int .i64 (s.nds.length : Int))] rfl (by kernel_rfl) (enters_of Tryz.func18 (by kernel_rfl) rfl) (fun w hw => (isBelow_any _ _ w).mono (by rintro e w' ⟨rfl, rfl⟩; exact ⟨congrArg (fun z => Ending.returned (Value.bool z)) h1_0, hw⟩))
          · exact step_pick rfl trivial _ _ _ true rfl (by kernel_rfl) (by kernel_rfl)
          · exact step_move rfl trivial _ rfl (by kernel_rfl)
          · exact step_fieldAddr rfl (by exact ⟨_, rfl, by kernel_rfl⟩) _ _ _ _ rfl rfl (fun w hw => faE2 w _ _)
          · exact step_load rfl (by exact ⟨_, rfl, by kernel_rfl⟩) _ _ _ rfl rfl (fun w hw => load_in ((cell_at hw.bx 2).trans rfl))
          · exact step_binOp rfl (by exact ⟨_, rfl, by kernel_rfl⟩) _ _ _ _ _ _ _ rfl rfl rfl (fun w hw => by rw [← h1_1]; exact bin_geq _ _ _)
          · exact step_pick rfl trivial _ _ _ true rfl (by kernel_rfl) (by kernel_rfl)
          · exact step_move rfl trivial _ rfl (by kernel_rfl)
          · exact step_fieldAddr rfl (by exact ⟨_, rfl, by kernel_rfl⟩) _ _ _ _ rfl rfl (fun w hw => faE2 w _ _)
          · exact step_load rfl (by exact ⟨_, rfl, by kernel_rfl⟩) _ _ _ rfl rfl (fun w hw => load_in ((cell_at hw.bx 2).trans rfl))
          · exact step_binOp rfl (by exact ⟨_, rfl, by kernel_rfl⟩) _ _ _ _ _ _ _ rfl rfl rfl (fun w hw => by rw [← h1_2]; exact bin_leq _ _ _)
          · exact step_pick rfl trivial _ _ _ true rfl (by kernel_rfl) (by kernel_rfl)
          · exact step_call rfl trivial 96 _ _ [(.pointer (some ⟨p, 0, none⟩)), (.bool true)] rfl (by kernel_rfl) (enters_of Tryz.func96 (by kernel_rfl) rfl) (fun w hw => (must_yes _ w).mono (by rintro e w' ⟨rfl, rfl⟩; exact ⟨rfl, hw⟩))
        intro W hW
        first | refine hK _ _ ?_ | refine (‹∀ (a : Act) (w : World), Code.wp Tryz.prog _ _ a w → _›) _ _ ?_ | skip
        simp only [finL, List.getD_cons_zero, List.getD_cons_succ, Nat.zero_add, Nat.reduceAdd, List.setIfInBounds_toArray, List.set_cons_zero, List.set_cons_succ]
        obtain ⟨W1, rfl⟩ : ∃ V, V = W := ⟨_, rfl⟩
        have hJ1 := hW
        clear hW hK
        go_wp2
        rename_i hK
        cases h2_0 : eqEv x (bareE x) with
        | false =>
          refine wp_region_any hmx ?_
          refine wpAny_dies 5 (fun i__ => ([(.pointer (some ⟨p, 0, none⟩)), (evV x), (evV x), (evV (bareE x)), (.bool false), undef] : List Value).getD i__ undef) (fun V => JB w p b w.heap.size need pl s x V) rfl (by kernel_rfl) (hJ1.carry (Below.refl _ _).drew) ?_ ?_
          · refine (stepsFrom_cons ?_ (stepsFrom_cons ?_ (stepsFrom_cons ?_ (stepsFrom_cons ?_ (stepsFrom_cons ?_ trivial)))))
            · exact step_move rfl trivial _ rfl (by kernel_rfl)
            · exact step_load rfl trivial _ _ _ rfl rfl (fun w hw => load_bx hw.bx)
            · exact step_load rfl trivial _ _ _ rfl rfl (fun w hw => load_bx hw.bx)
            · exact step_call rfl trivial 103 _ _ [(evV x)] rfl (by kernel_rfl) (enters_of Tryz.func103 (by kernel_rfl) rfl) (fun w hw => (bare_any x w).mono (by rintro e w' ⟨rfl, hb⟩; exact ⟨rfl, hw.carry hb⟩))
            · exact step_binOp rfl trivial _ _ _ _ _ _ _ rfl rfl rfl (fun w hw => by rw [← h2_0]; exact eqE _ _ _ _ hhe hun (bare_lt hhe hun).1 (bare_lt hhe hun).2 w)
          · intro o ho
            cases ho
            exact call_dies rfl trivial 96 _ _ [(.pointer (some ⟨p, 0, none⟩)), (.bool false)] rfl (by kernel_rfl) (enters_of Tryz.func96 (by kernel_rfl) rfl) (off pl) (J2 := fun V => Tn p (some b) (some b) w V) (fun w hw => (must_no hw.he).mono (by rintro e w' ⟨rfl, rfl⟩; exact ⟨rfl, hw.tn⟩)) (fun a w hd hb => ⟨hd, lw_no (by simp only [evtF, h1_0, h1_1, h1_2, h2_0]; rfl) hb⟩)
        | true =>
          refine wp_region_any hmx ?_
          refine wpAny_pure (fun i__ => ([(.pointer (some ⟨p, 0, none⟩)), (evV x), (evV x), (evV (bareE x)), (.bool true), (.tuple #[])] : List Value).getD i__ undef) (fun V => JB w p b w.heap.size need pl s x V) (by kernel_rfl) (hJ1.carry (Below.refl _ _).drew) ?_ ?_
          · refine (stepsFrom_cons ?_ (stepsFrom_cons ?_ (stepsFrom_cons ?_ (stepsFrom_cons ?_ (stepsFrom_cons ?_ (stepsFrom_cons ?_ trivial))))))
            · exact step_move rfl trivial _ rfl (by kernel_rfl)
            · exact step_load rfl trivial _ _ _ rfl rfl (fun w hw => load_bx hw.bx)
            · exact step_load rfl trivial _ _ _ rfl rfl (fun w hw => load_bx hw.bx)
            · exact step_call rfl trivial 103 _ _ [(evV x)] rfl (by kernel_rfl) (enters_of Tryz.func103 (by kernel_rfl) rfl) (fun w hw => (bare_any x w).mono (by rintro e w' ⟨rfl, hb⟩; exact ⟨rfl, hw.carry hb⟩))
            · exact step_binOp rfl trivial _ _ _ _ _ _ _ rfl rfl rfl (fun w hw => by rw [← h2_0]; exact eqE _ _ _ _ hhe hun (bare_lt hhe hun).1 (bare_lt hhe hun).2 w)
            · exact step_call rfl trivial 96 _ _ [(.pointer (some ⟨p, 0, none⟩)), (.bool true)] rfl (by kernel_rfl) (enters_of Tryz.func96 (by kernel_rfl) rfl) (fun w hw => (must_yes _ w).mono (by rintro e w' ⟨rfl, rfl⟩; exact ⟨rfl, hw⟩))
          intro W hW
          first | refine hK _ _ ?_ | refine (‹∀ (a : Act) (w : World), Code.wp Tryz.prog _ _ a w → _›) _ _ ?_ | skip
          simp only [finL, List.getD_cons_zero, List.getD_cons_succ, Nat.zero_add, Nat.reduceAdd, List.setIfInBounds_toArray, List.set_cons_zero, List.set_cons_succ]
          obtain ⟨W2, rfl⟩ : ∃ V, V = W := ⟨_, rfl⟩
          have hJ2 := hW
          clear hW hK
          obtain ⟨i0, i1, i2, i3, i4, i5, i6⟩ := bx_ints hJ2.bx
          obtain ⟨e7, e8, e9, e10, e11, e12, e13, e14⟩ := bx_sets hJ2.bx
          have hfo := follows_any hJ2.he x
          unfold evV ecA at hfo
          have hnn : 0 ≤ x.nd ∧ x.nd < (s.nds.length : Int) := of_decide_eq_true h1_0
          obtain ⟨u, hm⟩ : ∃ u, s.nds[x.nd.toNat]? = some u := ⟨_, List.getElem?_eq_getElem (by omega)⟩
          have hxm : x.nd = (x.nd.toNat : Int) := by omega
          obtain ⟨m, hmm⟩ : ∃ m, x.nd.toNat = m := ⟨_, rfl⟩
          have hml : m < s.nds.length := by omega
          rw [hmm] at hm
          have HX : Hid (x.nd = (m : Int)) := by rw [hmm] at hxm; exact hxm
          have HM : Hid (x.nd.toNat = m) := hmm
          have hlw := hlaw u (by rw [hmm]; exact hm) hxm
          rw [hmm] at hlw
          clear hnn hxm hmm hlaw
          cases h3 : fol s x with
          | false =>
            rw [h3] at hfo
            go_wp2_with (first | (go_at_call 104; (with_reducible refine hfo.mono ?_); rintro e u1 ⟨rfl, hu1⟩; have hJ3 := hJ2.carry hu1) | (go_at_call 96; (with_reducible refine (must_no hJ3.he).mono ?_); rintro e u3 ⟨rfl, hu3⟩; obtain rfl := hu3.symm))
            exact ⟨rfl, lw_no (by simp only [evtF, h1_0, h1_1, h1_2, h2_0, h3]; rfl) hJ3.tn⟩
          | true =>
            rw [h3] at hfo
            go_wp2_with (first | (go_at_call 104; (with_reducible refine hfo.mono ?_); rintro e u1 ⟨rfl, hu1⟩; have hJ3 := hJ2.carry hu1) | (go_at_call 96; (with_reducible refine (must_yes _ _).mono ?_); rintro e u3 ⟨rfl, hu3⟩; obtain rfl := hu3.symm))
            rename_i hK
            clear i0 i1 i2 i3 i4 i5 i6 e7 e8 e9 e10 e11 e12 e13 e14
            refine wp_region_any hmx ?_
            refine wpAny_tabG (G := Nat) (fun g i__ => ([(.pointer (some ⟨p, 0, none⟩)), (.pointer (some ⟨p, 0, none⟩)), (.pointer (some ⟨p, 2, none⟩)), (.slice (some ⟨b, 0, none⟩) s.nds.length s.nds.length), (.pointer (some ⟨w.heap.size, 1, none⟩)), (.int .i64 x.nd), (.pointer (some ⟨b, m * 5, none⟩)), (.agg (nc u).toArray), (.pointer (some ⟨g, 0, none⟩)), undef] : List Value).getD i__ undef) (fun g d V => JN w p b w.heap.size need pl s x u g (d 8) (d 9) V) (by kernel_rfl) (0) (show JN w p b w.heap.size need pl s x u 0 false false _ from ⟨hJ3.carry (Below.refl _ _).drew, fun e => (by cases e)⟩) ?step6 ?fin6
            case step6 =>
              intro i o ho
              have hi : i < 10 := getElem?_lt ho
              match i, hi, ho with
              | 0, _, ho =>
                cases ho
                refine stepG_of (fun g d hdep => ?_)
                exact step_move rfl trivial _ rfl (by kernel_rfl)
              | 1, _, ho =>
                cases ho
                refine stepG_of (fun g d hdep => ?_)
                exact step_nilCheck rfl trivial _ _ _ rfl rfl rfl
              | 2, _, ho =>
                cases ho
                refine stepG_of (fun g d hdep => ?_)
                exact step_fieldAddr rfl trivial _ _ _ _ rfl rfl (fun w hw => faH2 w _ _)
              | 3, _, ho =>
                cases ho
                refine stepG_of (fun g d hdep => ?_)
                exact step_load rfl trivial _ _ _ rfl rfl (fun w hw => load_ns ((cell_at hw.jb.he.box 2).trans rfl))
              | 4, _, ho =>
                cases ho
                refine stepG_of (fun g d hdep => ?_)
                exact step_fieldAddr rfl trivial _ _ _ _ rfl rfl (fun w hw => faE1 w _ _)
              | 5, _, ho =>
                cases ho
                refine stepG_of (fun g d hdep => ?_)
                exact step_load rfl trivial _ _ _ rfl rfl (fun w hw => load_in ((cell_at hw.jb.bx 1).trans rfl))
              | 6, _, ho =>
                cases ho
                refine stepG_of (fun g d hdep => ?_)
                exact step_indexAddr rfl trivial _ _ _ _ _ rfl rfl rfl (fun w hw => by rw [HX.out]; exact idx_n b _ m hml w)
              | 7, _, ho =>
                cases ho
                refine stepG_of (fun g d hdep => ?_)
                exact step_load rfl trivial _ _ _ rfl rfl (fun w hw => load_nd hw.jb.he hm)
              | 8, _, ho =>
                cases ho
                exact stepG_newT rfl rfl _ _ rfl run_allocN (fun g d V hJ hun hcl => by have h9 : d 9 = false := (by cases h : d 9 with | false => rfl | true => exact absurd (hcl 9 _ rfl h 8 (by kernel_rfl)) (by rw [hun]; simp)); have hJ' := hJ; rw [hun, h9] at hJ'; refine ⟨V.heap.size, (fun j hj => match j, hj with | 8, hj => (by rw [hj] at hun; cases hun)  | 0, _ => rfl | 1, _ => rfl | 2, _ => rfl | 3, _ => rfl | 4, _ => rfl | 5, _ => rfl | 6, _ => rfl | 7, _ => rfl | 9, _ => rfl | _ + 10, _ => rfl), rfl, ?_⟩; show JN w p b w.heap.size need pl s x u _ true (d 9) _; rw [h9]; exact ⟨hJ'.jb.carry (al1' _ _), fun _ => ⟨hJ'.jb.tn.size, by have := lt_at hJ'.jb.he.box; omega, by have := lt_at hJ'.jb.he.nod; omega, by have := lt_at hJ'.jb.bx; omega, new_at rfl⟩⟩)
              | 9, _, ho =>
                cases ho
                exact stepG_store rfl rfl rfl _ _ _ (fun g => .pointer (some ⟨g, 0, none⟩)) (fun g => .agg (nc u).toArray) rfl (fun g => by kernel_rfl) (fun g => by kernel_rfl) (fun g d V hJ hun hdep => by have h8 : d 8 = true := hdep 8 (by kernel_rfl); have hJ' := hJ; rw [h8, hun] at hJ'; obtain ⟨k0, k1, k2, k3, k4⟩ := hJ'.bn rfl; refine ⟨_, run_store_in V g 0 147 147 (nc n0) (nc u) k4 info_nd (Nat.le_refl 5) (nc_one _), ?_⟩; show JN w p b w.heap.size need pl s x u g (d 8) true _; rw [h8]; exact ⟨hJ'.jb.off k0 k1 k2 k3 _, fun _ => ⟨k0, k1, k2, k3, (setRow_heap V g _ _ _ _ k4).trans rfl⟩⟩)
            intro g d W hall hW
            first | refine hK _ _ ?_ | refine (‹∀ (a : Act) (w : World), Code.wp Tryz.prog _ _ a w → _›) _ _ ?_ | skip
            simp only [finL, List.getD_cons_zero, List.getD_cons_succ, Nat.zero_add, Nat.reduceAdd, List.setIfInBounds_toArray, List.set_cons_zero, List.set_cons_succ]
            rw [hall 8 (by decide), hall 9 (by decide)] at hW
            obtain ⟨W4, rfl⟩ : ∃ V, V = W := ⟨_, rfl⟩
            obtain ⟨hJ4, hbn⟩ := hW
            obtain ⟨g0, g1, g2, g3, g4⟩ := hbn rfl
            simp only [if_true] at g4
            clear hall hbn hJ0 hJ0' hJ1 hJ2 hJ3 hfo hK
            have o0 : W4.cell? ⟨g, 0, none⟩ = some (.bool u.up) := (cell_at g4 0).trans rfl
            have o1 : W4.cell? ⟨g, 1, none⟩ = some (.int .i64 u.life) := (cell_at g4 1).trans rfl
            obtain ⟨i0, i1, i2, i3, i4, i5, i6⟩ := bx_ints hJ4.bx
            obtain ⟨e7, e8, e9, e10, e11, e12, e13, e14⟩ := bx_sets hJ4.bx
            have hlv := hlw W4 hJ4.he
            unfold evV ecA at hlv
            have HT : Hid (Tn p (some b) (some b) w W4) := hJ4.tn
            have hH4 := hJ4.he
            have HL : ∀ q : Bool, ((x.k == 1) || (u.up && (u.life == x.li))) = q → evtF s x r = if q then r m u else none := fun q hq => by simp only [evtF, h1_0, h1_1, h1_2, h2_0, h3]; rw [HM.out, hm]; simp only [hq]; rfl
            clear g0 g1 g2 g3 g4 hJ4 hlw h hm HX
            obtain ⟨up, lf, tg, oo, ak⟩ := u
            obtain ⟨k, nd, li, ro, ta, of, du, he, un⟩ := x
            simp only at o0 o1 HL i0 i1 i2 i3 i4 i5 i6 e7 e8 e9 e10 e11 e12 e13 e14 hlv
            have no : ∀ q : Bool, ((k == 1) || (up && (lf == li))) = q → q = false → evtF s ⟨k, nd, li, ro, ta, of, du, he, un⟩ r = none := fun q hq e => by rw [HL q hq, e]; rfl
            have yes : ∀ q : Bool, ((k == 1) || (up && (lf == li))) = q → q = true → evtF s ⟨k, nd, li, ro, ta, of, du, he, un⟩ r = r m ⟨up, lf, tg, oo, ak⟩ := fun q hq e => by rw [HL q hq, e]; rfl
            obtain ⟨rr, hrr⟩ : ∃ rr, r m ⟨up, lf, tg, oo, ak⟩ = rr := ⟨_, rfl⟩
            rw [hrr] at yes
            have HR : Hid (r m ⟨up, lf, tg, oo, ak⟩ = rr) := hrr
            clear HL hrr
            have hen : ∀ args w, (callFunc f args).run Tryz.prog w = .ok (.enter f args) w := by
              rcases hf with rfl | rfl | rfl | rfl | rfl | rfl
              · exact enters_of Tryz.func97 (by kernel_rfl) rfl
              · exact enters_of Tryz.func98 (by kernel_rfl) rfl
              · exact enters_of Tryz.func99 (by kernel_rfl) rfl
              · exact enters_of Tryz.func100 (by kernel_rfl) rfl
              · exact enters_of Tryz.func101 (by kernel_rfl) rfl
              · exact enters_of Tryz.func102 (by kernel_rfl) rfl
            clear hf
            by_cases k1 : k = 1
            case pos =>
              subst k1
              have HY : Hid (evtF s ⟨1, nd, li, ro, ta, of, du, he, un⟩ r = r m ⟨up, lf, tg, oo, ak⟩) := (yes true (by simp) rfl).trans HR.out.symm
              have HLV : Hid (Calls Tryz.prog f #[.pointer (some ⟨p, 0, none⟩), .agg #[.int .i64 1, .int .i64 nd, .int .i64 li, .int .i64 ro, .int .i64 ta, .int .i64 of, .int .i64 du, .int .u32 (wd he 0 : Nat), .int .u32 (wd he 1 : Nat), .int .u32 (wd he 2 : Nat), .int .u32 (wd he 3 : Nat), .int .u32 (wd un 0 : Nat), .int .u32 (wd un 1 : Nat), .int .u32 (wd un 2 : Nat), .int .u32 (wd un 3 : Nat)]] W4 (Lw p b need pl W4 (r m ⟨up, lf, tg, oo, ak⟩))) := hlv
              have HEN : Hid (∀ args w, (callFunc f args).run Tryz.prog w = .ok (.enter f args) w) := hen
              clear no yes hlv hen h1_0 h1_1 h1_2 h2_0 h3 HM HV
              go_wp2_with (go_at_call 96; (with_reducible refine (must_yesB _ _ (by simp) _).mono ?_); rintro e u3 ⟨rfl, hu3⟩; obtain rfl := hu3.symm)
              rename_i hKK
              first | rw [HEN.out] | simp only [HEN.out]
              rw [Oper.upon_enter]
              refine HLV.out.mono ?_
              intro e u5 hq5
              rw [HR.out] at hq5
              cases rr with
              | none =>
                obtain ⟨rfl, hT5⟩ := hq5
                exact ⟨rfl, lw_no (HY.out.trans HR.out) (HT.out.trans hT5)⟩
              | some s5 =>
                obtain ⟨rfl, hH5, hT5⟩ := hq5
                refine hKK _ _ ?_
                go_end0
                exact lw_yes (HY.out.trans HR.out) hH5 (HT.out.trans hT5)
            cases up with
            | false =>
              go_wp2_with (go_at_call 96; (with_reducible refine (must_noB hH4 _ (by simp [k1])).mono ?_); rintro e u3 ⟨rfl, hu3⟩; obtain rfl := hu3.symm)
              exact ⟨rfl, lw_no rfl HT.out⟩
            | true =>
              by_cases l1 : lf = li
              case neg =>
                go_wp2_with (go_at_call 96; (with_reducible refine (must_noB hH4 _ (by simp [k1, l1])).mono ?_); rintro e u3 ⟨rfl, hu3⟩; obtain rfl := hu3.symm)
                exact ⟨rfl, lw_no rfl HT.out⟩
              subst l1
              have HY : Hid (evtF s ⟨k, nd, lf, ro, ta, of, du, he, un⟩ r = r m ⟨true, lf, tg, oo, ak⟩) := (yes true (by simp) rfl).trans HR.out.symm
              have HLV : Hid (Calls Tryz.prog f #[.pointer (some ⟨p, 0, none⟩), .agg #[.int .i64 k, .int .i64 nd, .int .i64 lf, .int .i64 ro, .int .i64 ta, .int .i64 of, .int .i64 du, .int .u32 (wd he 0 : Nat), .int .u32 (wd he 1 : Nat), .int .u32 (wd he 2 : Nat), .int .u32 (wd he 3 : Nat), .int .u32 (wd un 0 : Nat), .int .u32 (wd un 1 : Nat), .int .u32 (wd un 2 : Nat), .int .u32 (wd un 3 : Nat)]] W4 (Lw p b need pl W4 (r m ⟨true, lf, tg, oo, ak⟩))) := hlv
              have HEN : Hid (∀ args w, (callFunc f args).run Tryz.prog w = .ok (.enter f args) w) := hen
              clear no yes hlv hen h1_0 h1_1 h1_2 h2_0 h3 HM HV
              go_wp2_with (go_at_call 96; (with_reducible refine (must_yesB _ _ (by simp) _).mono ?_); rintro e u3 ⟨rfl, hu3⟩; obtain rfl := hu3.symm)
              rename_i hKK
              first | rw [HEN.out] | simp only [HEN.out]
              rw [Oper.upon_enter]
              refine HLV.out.mono ?_
              intro e u5 hq5
              rw [HR.out] at hq5
              cases rr with
              | none =>
                obtain ⟨rfl, hT5⟩ := hq5
                exact ⟨rfl, lw_no (HY.out.trans HR.out) (HT.out.trans hT5)⟩
              | some s5 =>
                obtain ⟨rfl, hH5, hT5⟩ := hq5
                refine hKK _ _ ?_
                go_end0
                exact lw_yes (HY.out.trans HR.out) hH5 (HT.out.trans hT5)
end Go.Proofs.YtgnhainfcfcodaaGreat
