/- A note whatever its kind: its type, its methods; what a note without bytes comes to. -/
import Derived.Test.YtnomeinppdnhfaaGreatJnJ4
import Derived.Test.YtnomeinppdnhfaaGreatJnJ5
import Derived.Test.YtnomeinppdnhfaaGreatJnJ6
import Derived.Test.YtnomeinppdnhfaaGreatJnJ8
namespace Go.Proofs.YtnomeinppdnhfaaGreat
open Go.RowKit Go.Shelf Go.Lib

def OwN (l : List (Int × Int × Int)) (mk : Value → Value) (W : World) (e : Ending) (w' : World) : Prop := ∃ a c, e = .returned (mk (.slice a l.length c)) ∧ w'.ownsRow W.heap.size 80 3 (.slice a l.length c) l.length (fl l) ∧ Below W.heap.size W w'
theorem note_abs (kd : Nat) (hk : 1 ≤ kd ∧ kd ≤ 3) (f r : Int) (N : Nat) (hN : N < S128) (h3 : kd = 3 → r = 0) (h2 : kd ≠ 2 → N = 0) (l : List (Int × Int × Int)) (hl : l.length ≤ 1000) : ∃ (T : TypeId) (FB FN : FuncId) (X : Value → Value),
    (∀ v, noteV kd f r N v = .iface T (X v)) ∧
    (∀ v w, (method 292 T (X v) "Bytes").run Tryz.prog w = .ok (FB, X v) w) ∧
    (∀ v w, (method 292 T (X v) "Notices").run Tryz.prog w = .ok (FN, X v) w) ∧
    (∀ args w, (callFunc FB args).run Tryz.prog w = .ok (.enter FB args) w) ∧
    (∀ args w, (callFunc FN args).run Tryz.prog w = .ok (.enter FN args) w) ∧
    (∀ n a c W, RdN W a l → Calls Tryz.prog FB #[X (.slice a l.length c), .int .i64 n] W (BO kd n f r N l W)) ∧
    (∀ a c W, RdN W a l → Calls Tryz.prog FN #[X (.slice a l.length c)] W (OwN l (fun v => v) W)) ∧
    (∀ a c W, RdN W a l → Calls Tryz.prog 13 #[.agg #[.iface T (X (.slice a l.length c))]] W (OwN l (fun v => .iface T (X v)) W)) := by
  rcases (show kd = 1 ∨ kd = 2 ∨ kd = 3 by omega) with rfl | rfl | rfl
  · obtain rfl := h2 (by decide)
    exact ⟨_, _, _, fun v => .agg #[.int .i64 f, .int .i64 r, v], fun _ => rfl, fun v w => invQ_Bytes _ w, fun v w => invQ_Notices _ w, enters_of Tryz.func17 (by kernel_rfl) rfl, enters_of Tryz.func138 (by kernel_rfl) rfl, fun n a c W h => qbytes_any n f r a c l W h (by omega), fun a c W h => noticesQ_any f r a c l W h (by omega), fun a c W h => pnoteQ f r a c l W h (by omega)⟩
  · exact ⟨_, _, _, fun v => .agg #[.int .i64 f, .int .i64 r, .int .u32 (wd N 0 : Nat), .int .u32 (wd N 1 : Nat), .int .u32 (wd N 2 : Nat), .int .u32 (wd N 3 : Nat), v], fun _ => rfl, fun v w => invP_Bytes _ w, fun v w => invP_Notices _ w, enters_of Tryz.func143 (by kernel_rfl) rfl, enters_of Tryz.func145 (by kernel_rfl) rfl, fun n a c W h => pbytes_any n f r N hN a c l W h (by omega), fun a c W h => noticesP_any f r _ _ _ _ a c l W h (by omega), fun a c W h => pnoteP f r _ _ _ _ a c l W h (by omega)⟩
  · obtain rfl := h2 (by decide)
    obtain rfl := h3 rfl
    exact ⟨_, _, _, fun v => .agg #[.int .i64 f, v], fun _ => rfl, fun v w => invU_Bytes _ w, fun v w => invU_Notices _ w, enters_of Tryz.func149 (by kernel_rfl) rfl, enters_of Tryz.func151 (by kernel_rfl) rfl, fun n a c W h => ubytes_any n f a c l W h (by omega), fun a c W h => noticesU_any f a c l W h (by omega), fun a c W h => pnoteU f a c l W h (by omega)⟩
theorem bo_none {kd N : Nat} {n fr rd : Int} {l : List (Int × Int × Int)} {W W' : World} {e : Ending} (h : BO kd n fr rd N l W e W') (hf : ¬ flt kd n fr rd N l = 0) : ∃ b2 c2, e = .returned (.tuple #[.slice b2 0 c2, .int .i64 (flt kd n fr rd N l)]) ∧ W'.ownsRow W.heap.size 5 1 (.slice b2 0 c2) 0 (cB []) ∧ Below W.heap.size W W' := by
  obtain ⟨b, rfl, ho, hb⟩ := h
  rw [fb7, if_neg hf] at ho
  have ho2 := ho.out
  rcases own_form ho2 with ⟨rfl, _⟩ | ⟨g, c, rfl, _, _, _⟩
  · exact ⟨none, 0, rfl, ho2, hb⟩
  · exact ⟨_, c, rfl, ho2, hb⟩
theorem dec_nil (n : Int) : ∃ er, dec n [] = .error er := by
  cases h : dec n [] with
  | error er => exact ⟨er, rfl⟩
  | ok f =>
    obtain ⟨kd, fr, rd, N, l, _, _, _, _, _, _, hb⟩ := dec_inv byt_nil h
    have := congrArg List.length hb
    rw [byt7_len] at this
    simp at this
theorem hp_keep {W W' : World} {b : Nat} {o : Obj} (h : W.heap[b]? = some o) (hb : Below W.heap.size W W') : W'.heap[b]? = some o := (hb.block _ (lt_at h)).trans h
theorem RB.ab {base : Nat} {t : TypeId} {W V : World} {b : Nat} {k f r : Int} {N : Nat} {v : Value} (h : RB W b k f r N v) (hab : Ab base t W V) (ht : 44 ≠ t) : RB V b k f r N v := hab.box h (by decide) ht
/-- The bounds of a new row's block. -/
theorem new_in {W V : World} {S n s : Nat} {t : TypeId} {z : Value} {zs : List Value} (h : V.ownsRow W.heap.size t s z n zs) (hS : S ≤ W.heap.size) : ∀ g, z.ownBlock = some g → S ≤ g ∧ g < V.heap.size := fun g e => ⟨Nat.le_trans hS (Kel.row_lt h g e).1, (Kel.row_lt h g e).2⟩
theorem nil_in (S T : Nat) : ∀ g, (Value.slice none 0 0).ownBlock = some g → S ≤ g ∧ g < T := fun g e => by cases e
/-- A note's box is written: nothing else turns. -/
theorem nt_row {W V : World} {b b0 n s : Nat} {k0 f0 r0 : Int} {N0 : Nat} {v0 : Value} {t : TypeId} {z : Value} {zs : List Value} (hr : W.ownsRow b0 t s z n zs) (h : RB W b k0 f0 r0 N0 v0) (ho : ∀ q, q ≠ b → V.heap[q]? = W.heap[q]?) (ht : 44 ≠ t) : V.ownsRow b0 t s z n zs :=
  Kel.row_at hr fun g hg => ho g (fun e => by
    subst e
    exact Kel.row_type hr h ht hg)
theorem BkL.nt {base bb SB SN : Nat} {W V : World} {b : Nat} {k0 f0 r0 : Int} {N0 : Nat} {v0 : Value} (hk : BkL base bb SB SN W) (h : RB W b k0 f0 r0 N0 v0) (ho : ∀ q, q ≠ b → V.heap[q]? = W.heap[q]?) : BkL base bb SB SN V := by
  obtain ⟨uI, vI, XI, yI, LI, uN, vN, XN, yN, LN, C, h1, h2, h3, h4, h5, h6, h7, h8, h9, h10⟩ := hk
  have key : ∀ (g : Nat) (cur : Array Value) (t : TypeId), W.heap[g]? = some (.cells cur t (0, 0)) → t ≠ 44 → V.heap[g]? = W.heap[g]? := fun g cur t hg ht => ho g (fun e => by
    subst e
    have := hg.symm.trans h
    simp only [Option.some.injEq, Obj.cells.injEq] at this
    exact ht this.2.1)
  exact ⟨uI, vI, XI, yI, LI, uN, vN, XN, yN, LN, C, (key _ _ _ h1 (by decide)).trans h1, h2, h3, h4, h5, h6, h7, h8.move (fun g cur t _ hg ht => key g cur t hg (by rcases ht with rfl | ⟨rfl, _⟩ <;> decide)), h9.move (fun g cur t _ hg ht => key g cur t hg (by rcases ht with rfl | ⟨rfl, _⟩ <;> decide)), h10⟩
/-- What a store of a whole note into its box does. -/
theorem nt_store {w W : World} {B b : Nat} {k0 f0 r0 : Int} {N0 : Nat} {v0 : Value} (h : RB W b k0 f0 r0 N0 v0) (hw : Below B w W) (hB : B ≤ b) (cs : Array Value) : (W.setRow b cs).heap[b]? = some (.cells cs 44 (0, 0)) ∧ Below B w (W.setRow b cs) ∧ (∀ q, q ≠ b → (W.setRow b cs).heap[q]? = W.heap[q]?) ∧ W.heap.size ≤ (W.setRow b cs).heap.size :=
  ⟨setRow_heap _ _ _ _ _ _ h, hw.trans ⟨rfl, rfl, rfl, by simp [World.setRow], fun k hk => Go.setRow_other _ _ _ _ (by omega)⟩, fun q hq => Go.setRow_other _ _ _ _ hq, by simp [World.setRow]⟩
theorem infoNx : (Tryz.prog.info? 44).map (·.size) = some 8 := by kernel_rfl
theorem rdB_own {W : World} {base : Nat} {a : Option Addr} {c : Nat} {l : List Nat} (h : W.ownsRow base 5 1 (.slice a l.length c) l.length (cB l)) : RdB W a l := by
  obtain ⟨ad, cap, e, hr⟩ := RdB.own h
  simp only [Value.slice.injEq] at e
  rw [e.1]
  exact hr
theorem keepN0 {base bb SB SN : Nat} {w : World} (h : BkL base bb SB SN w) (hbz : base ≤ w.heap.size) (hbb : base ≤ bb) : Calls Tryz.prog 15 #[.pointer (some ⟨bb, 0, none⟩), .slice none 0 0] w fun e w' => e = .returned (.tuple #[]) ∧ BkL base bb SB SN w' ∧ Ab base 42 w w' :=
  keepN (l := []) h hbz hbb (World.ownsRow_nil _ _ _ _) (Nat.zero_le _) (nil_in _ _) (Nat.le_refl _)
theorem keepB0 {base bb SB SN T : Nat} {w : World} (h : BkL base bb SB SN w) (hbz : base ≤ w.heap.size) (hbb : base ≤ bb) {a : Option Addr} {c : Nat} (hz : w.ownsRow base 5 1 (.slice a 0 c) 0 (cB [])) (hn : ∀ g, (Value.slice a 0 c).ownBlock = some g → SB ≤ g ∧ g < T) (hT : SB ≤ T) : Calls Tryz.prog 9 #[.pointer (some ⟨bb, 0, none⟩), .slice a 0 c] w fun e w' => e = .returned (.tuple #[]) ∧ BkL base bb T SN w' ∧ Ab base 46 w w' :=
  keepB (l := []) h hbz hbb hz (Nat.zero_le _) hn hT
end Go.Proofs.YtnomeinppdnhfaaGreat
