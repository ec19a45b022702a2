/- Two disks that are played with: the program's and the document's. -/
import Derived.Test.YtnkdfpbgdimaoaaRtd
import Derived.Test.YtnkdfpbgdimaoaaLtk
import Derived.Test.YtnkdfpbgdimaoaaStg
import Derived.Test.YtnkdfpbgdimaoaaOpx
import Derived.Test.YtnkdfpbgdimaoaaNqk
namespace Go.Proofs.Ytnkdfpbgdimaoaa
open Go.RowKit Go.Shelf Go.Lib

theorem RfD.same {W V : World} {lb o base r c : Nat} {d : Dst} (h : RfD W lb o base r c d) (e : V.heap[lb]? = W.heap[lb]?) (e2 : V.heap[r]? = W.heap[r]?) : RfD V lb o base r c d := by
  obtain ⟨cur, h1⟩ := h.lk
  refine ⟨(World.cell?_of_block (a := ⟨lb, _, none⟩) e).trans h.b, (World.cell?_of_block (a := ⟨lb, _, none⟩) e).trans h.f, (World.cell?_of_block (a := ⟨lb, _, none⟩) e).trans h.u, (World.cell?_of_block (a := ⟨lb, _, none⟩) e).trans h.n, ?_, ⟨cur, e.trans h1⟩, h.len, h.byt⟩
  refine ⟨h.row.1, ?_⟩
  rcases h.row.2 with ⟨q, _⟩ | ⟨g1, c1, cur1, q, h2, h3, h4⟩
  · cases q
  · cases q
    exact .inr ⟨r, c, cur1, rfl, h2, e2.trans h3, h4⟩
structure Sp (w : World) (p lb r c : Nat) (d d' : Dst) (V : World) : Prop where
  dk : Dk V p d
  rf : RfD V lb 0 w.heap.size r c d'
  bl : Below w.heap.size w V
  hp : w.heap.size ≤ p
  hl : w.heap.size ≤ lb
section
variable {w V V' : World} {p lb r c : Nat} {d d' e : Dst}
theorem Sp.carry (h : Sp w p lb r c d d' V) (hb : Below V.heap.size V V') : Sp w p lb r c d d' V' := ⟨h.dk.carry hb, h.rf.carry hb, h.bl.trans (hb.mono h.bl.size), h.hp, h.hl⟩
theorem Sp.drew (h : Sp w p lb r c d d' V) : Sp w p lb r c d d' V.drew := h.carry (Below.refl _ _).drew
theorem Sp.ne (h : Sp w p lb r c d d' V) : lb ≠ p ∧ r ≠ p := by
  obtain ⟨cur, h1⟩ := h.rf.lk
  obtain ⟨_, cur2, h2⟩ := h.rf.rb
  constructor
  · intro q
    rw [q, h.dk.obj] at h1
    simp only [Option.some.injEq, Obj.cells.injEq] at h1
    exact absurd h1.2.1 (by decide)
  · intro q
    rw [q, h.dk.obj] at h2
    simp only [Option.some.injEq, Obj.cells.injEq] at h2
    exact absurd h2.2.1 (by decide)
theorem Sp.tp (h : Sp w p lb r c d d' V) (hd : Dk V' p e) (ht : Tp p V V') : Sp w p lb r c e d' V' :=
  ⟨hd, h.rf.same (ht.block _ h.rf.lt.1 h.ne.1) (ht.block _ h.rf.lt.2 h.ne.2), h.bl.trans (ht.below h.hp h.bl.size), h.hp, h.hl⟩
theorem Sp.tf (h : Sp w p lb r c d d' V) (hd : RfD V' lb 0 w.heap.size r c e) (ht : Tf lb 0 r V V') : Sp w p lb r c d e V' :=
  ⟨⟨(ht.block _ h.dk.lt (Ne.symm h.ne.1) (Ne.symm h.ne.2)).trans h.dk.obj, h.dk.len, h.dk.byt⟩, hd, h.bl.trans (ht.below h.hl h.rf.rb.1 h.bl.size), h.hp, h.hl⟩
end
/-- A step in a block of its own. -/
def OpB (W : World) (g : Nat) (o : OpS) : Prop := W.heap[g]? = some (.cells #[.int .i64 o.k, .int .i64 o.a, .int .i64 o.s, .int .i64 o.r.li, .int .i64 o.r.ro, .int .i64 o.r.ta] 52 (0, 0))
theorem OpB.carry {W V : World} {g : Nat} {o : OpS} (h : OpB W g o) (hb : Below W.heap.size W V) : OpB V g o := (hb.block _ (lt_at h)).trans h
theorem OpB.tp {w W V : World} {p lb r c g : Nat} {d d' : Dst} {o : OpS} (h : OpB W g o) (hs : Sp w p lb r c d d' W) (ht : Tp p W V) : OpB V g o := by
  refine (ht.block _ (lt_at h) fun q => ?_).trans h
  have h1 := h
  unfold OpB at h1
  rw [q, hs.dk.obj] at h1
  simp only [Option.some.injEq, Obj.cells.injEq] at h1
  exact absurd h1.2.1 (by decide)
theorem OpB.tf {w W V : World} {p lb r c g : Nat} {d d' : Dst} {o : OpS} (h : OpB W g o) (hs : Sp w p lb r c d d' W) (ht : Tf lb 0 r W V) : OpB V g o := by
  obtain ⟨cur, h1⟩ := hs.rf.lk
  obtain ⟨_, cur2, h2⟩ := hs.rf.rb
  unfold OpB at h ⊢
  refine (ht.block _ (lt_at h) (fun q => ?_) (fun q => ?_)).trans h
  · rw [q, h1] at h
    simp only [Option.some.injEq, Obj.cells.injEq] at h
    exact absurd h.2.1 (by decide)
  · rw [q, h2] at h
    simp only [Option.some.injEq, Obj.cells.injEq] at h
    exact absurd h.2.1 (by decide)
/-- The program's disk, the document's and the step. -/
def So (w : World) (p lb r c g : Nat) (o : OpS) (d d' : Dst) (V : World) : Prop := Sp w p lb r c d d' V ∧ OpB V g o
theorem So.drew {w V : World} {p lb r c g : Nat} {o : OpS} {d d' : Dst} (h : So w p lb r c g o d d' V) : So w p lb r c g o d d' V.drew := ⟨h.1.drew, h.2⟩
/-- While both are looked at. -/
def Lk (w : World) (p lb r c : Nat) (d : Dst) (g : Nat × Nat) (b : Bool) (V : World) : Prop := Sp w p lb r c d d V ∧ (b = true → BAt V g.1 0 d.l ∧ g.1 < V.heap.size)
theorem Lk.carry {w V V' : World} {p lb r c : Nat} {d : Dst} {g : Nat × Nat} {b : Bool} (h : Lk w p lb r c d g b V) (hb : Below V.heap.size V V') : Lk w p lb r c d g b V' := ⟨h.1.carry hb, fun q => by
  obtain ⟨h1, h2⟩ := h.2 q
  exact ⟨h1.carry (hb.block _ h2), Nat.lt_of_lt_of_le h2 hb.size⟩⟩
theorem Lk.start {w V : World} {p lb r c : Nat} {d : Dst} (h : Sp w p lb r c d d V) (g : Nat × Nat) : Lk w p lb r c d g false V.drew := ⟨h.drew, fun q => by cases q⟩
theorem sameB_lk {w V : World} {p lb r c : Nat} {d : Dst} {g : Nat × Nat} (h : Lk w p lb r c d g true V) : Calls Try.prog 10 #[.slice (some ⟨g.1, 0, none⟩) 256 g.2, .slice (some ⟨r, 0, none⟩) 256 c] V fun e w' => e = .returned (.bool true) ∧ Below V.heap.size V w' := by
  obtain ⟨h1, h2⟩ := h.2 rfl
  have hl := h.1.dk.len
  have q := sameB_yes (some ⟨g.1, 0, none⟩) (some ⟨r, 0, none⟩) g.2 c d.l V (fun _ => ⟨g.1, 0, rfl, h2, h1⟩) (fun _ => ⟨r, 0, rfl, h.1.rf.lt.2, h.1.rf.at⟩) (by rw [hl]; omega)
  rw [hl] at q
  exact q
theorem field_rd1 (W : World) (B : Nat) : (Instr.fieldAt 47 (.pointer (some ⟨B, 0, none⟩)) 1).run Try.prog W = .ok (.pointer (some ⟨B, 1, none⟩)) W := by go_simp
theorem field_rd2 (W : World) (B : Nat) : (Instr.fieldAt 47 (.pointer (some ⟨B, 0, none⟩)) 2).run Try.prog W = .ok (.pointer (some ⟨B, 2, none⟩)) W := by go_simp
theorem field_rd3 (W : World) (B : Nat) : (Instr.fieldAt 47 (.pointer (some ⟨B, 0, none⟩)) 3).run Try.prog W = .ok (.pointer (some ⟨B, 3, none⟩)) W := by go_simp
theorem load_bo {W : World} {B o : Nat} {x : Bool} (h : W.cell? ⟨B, o, none⟩ = some (.bool x)) : (Instr.loadAt 4 (.pointer (some ⟨B, o, none⟩))).run Try.prog W = .ok (.bool x) W := by go_simp
theorem neqB_f (x y : Operand) (w : World) (b : Bool) : binRun Try.prog .neq 4 x y (.bool b) (.bool b) w = .ok (.bool false) w := by cases b <;> kernel_rfl
theorem field_o3 (W : World) (B : Nat) : (Instr.fieldAt 52 (.pointer (some ⟨B, 0, none⟩)) 3).run Try.prog W = .ok (.pointer (some ⟨B, 3, none⟩)) W := by go_simp
theorem load_o3 {W : World} {B : Nat} {o : OpS} (h : OpB W B o) : (Instr.loadAt 23 (.pointer (some ⟨B, 3, none⟩))).run Try.prog W = .ok (rV o.r) W := by
  have c0 := cell_at h 3
  have c1 := cell_at h 4
  have c2 := cell_at h 5
  unfold rV
  go_simp
theorem stepG_ofC {G : Type} {P : Program} {md : Region.Mode} {ops : Array Oper} {Q : Exit → Act → World → Prop} {X0 : Array Value} {val : G → Nat → Value} {J : G → (Nat → Bool) → World → Prop} {i : Nat} {o : Oper}
    (h : ∀ g d, d i = false → (∀ j, bindsOn md o j = true → d j = true) → (∀ j oj, ops[j]? = some oj → d j = true → ∀ k, bindsOn md oj k = true → d k = true) → StepAt P md ops Q X0 (val g) (J g d) (J g (fun j => if j = i then true else d j)) i o) : StepG P md ops Q X0 val J i o := by
  intro g d a w hJ hun hdep hcl hS
  exact wpOp_mono (fun a' w' hq => ⟨g, fun _ _ => rfl, hq.1, hq.2⟩) (h g d hun hdep hcl a w hJ hS)
theorem i64_and3 (n : Int) : bits .and .i64 n 3 = n % 4 := by
  have h1 : (BitVec.ofInt 64 3).toNat = 2 ^ 2 - 1 := by decide
  have key : (BitVec.ofInt 64 n &&& BitVec.ofInt 64 3).toNat = (n % ((2 ^ 64 : Nat) : Int)).toNat % 2 ^ 2 := by
    rw [BitVec.toNat_and, BitVec.toNat_ofInt, h1, Nat.and_two_pow_sub_one_eq_mod]
  show IntKind.i64.wrap ((BitVec.ofInt 64 n &&& BitVec.ofInt 64 3).toNat : Nat) = n % 4
  rw [key, IntKind.wrap_i64]
  omega
set_option maxHeartbeats 1000000 in
theorem on_nil (W : World) : Calls Try.prog 28 #[.pointer none] W fun e w' => e = .returned (.bool false) ∧ w' = W := by
  go_enter Try.func28, Try.ntmps28
  go_wp2
  go_ret
  exact ⟨rfl, rfl⟩
set_option maxHeartbeats 4000000 in
set_option maxRecDepth 100000 in
theorem newest_nil (W : World) : Calls Try.prog 34 #[.pointer none] W fun e w' => e = .returned (ntV ⟨rec0, 0, 0, 100⟩) ∧ Below W.heap.size W w' := by
  obtain ⟨w1, hw1⟩ : ∃ w1, W.alloc (.cells #[.int .i64 0, .int .i64 0, .int .i64 0, .int .i64 0] 59) = w1 := ⟨_, rfl⟩
  have hj : JN W ⟨rec0, 0, 0, 40⟩ w1 := by rw [← hw1]; exact ⟨new_at rfl, al1' _ _⟩
  have hon := on_nil w1
  go_enter Try.func34, Try.ntmps34
  go_wp2_with (first | (go_at_call 28; (with_reducible refine hon.mono ?_); rintro e u1 ⟨rfl, hu⟩; obtain rfl := hu.symm) | (refine wpList_store_row rfl 59 (.tmp 2) (.tmp 11) rfl W.heap.size #[.int .i64 0, .int .i64 0, .int .i64 0, .int .i64 0] rfl rfl 59 _ hj.1 infoE rfl (by simp [Value.oneCell']) ?_; obtain ⟨v, hv⟩ : ∃ v, w1.setRow W.heap.size #[.int .i64 0, .int .i64 0, .int .i64 0, .int .i64 0] = v := ⟨_, rfl⟩; have hjv : JN W ⟨rec0, 0, 0, 40⟩ v := (by rw [← hv]; exact hj.put); rw [hv]))
  (try simp only [Exit.inBlock, Exit.then])
  exact retC3 rfl rfl rfl rfl rfl hjv.1 undE infoE ⟨rfl, hjv.2⟩
theorem load_nil (W : World) : Calls Try.prog 15 #[.pointer none] W fun e w' => e = .returned (.tuple #[.agg #[.int .i64 0, .int .i64 0, .int .i64 0], .int .i64 0, .int .i64 100]) ∧ Below W.heap.size W w' := load_of _ ⟨rec0, 0, 0, 100⟩ fun V _ => newest_nil V
theorem dSv_fz {d : Dst} (hf : Fz d) (x : Rec) : Fz (dSv d x).2 := by
  unfold dSv
  split
  · exact hf
  · split
    · exact hf
    · split
      · exact hf
      · exact dW2_fz hf _ _
theorem dSv_wr {d : Dst} (x : Rec) : d.writes ≤ (dSv d x).2.writes ∧ (dSv d x).2.writes ≤ d.writes + 2 := by
  unfold dSv
  split
  · exact ⟨by show d.writes ≤ d.writes; omega, by show d.writes ≤ d.writes + 2; omega⟩
  · split
    · exact ⟨by show d.writes ≤ d.writes; omega, by show d.writes ≤ d.writes + 2; omega⟩
    · split
      · exact ⟨by show d.writes ≤ d.writes; omega, by show d.writes ≤ d.writes + 2; omega⟩
      · exact dW2_wr _ _
end Go.Proofs.Ytnkdfpbgdimaoaa
