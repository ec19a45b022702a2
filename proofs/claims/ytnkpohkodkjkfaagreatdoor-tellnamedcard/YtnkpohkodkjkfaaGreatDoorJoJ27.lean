/- tell's reader: the sender's sign is read. -/
import Derived.Test.YtnkpohkodkjkfaaGreatDoorJoJ26
import Derived.Test.YtnkpohkodkjkfaaGreatDoorJoJ11
import Derived.Test.YtnkpohkodkjkfaaGreatDoorJoJ18
import Derived.Test.YtnkpohkodkjkfaaGreatDoorJoJ22
set_option maxHeartbeats 40000000
set_option maxRecDepth 100000
set_option linter.unusedVariables false
namespace Go.Proofs.YtnkpohkodkjkfaaGreatDoor
open Go.RowKit Go.Shelf Go.Lib

theorem pos_of_one {t : ByteArray} (h : ((starts t).length : Int) = 1) : 0 < t.size := by
  rcases Nat.eq_zero_or_pos t.size with e | e
  · unfold starts at h
    rw [startsFrom_end t _ 0 (by omega)] at h
    simp at h
  · exact e
theorem Ros.ob {M nb : Nat} {v : Value} {l : List Int} {W V : World} (h : Ros M W v l) (hb : Ob nb W V) (h1 : M ≤ nb) (h2 : M ≤ W.heap.size) : Ros M V v l := h.below (hb.below (Below.refl _ _) h1 h2)
/-- A reader in a box. -/
def RdBx (W : World) (b : Nat) (sl mp : Value) (nb wb : Nat) : Prop := W.heap[b]? = some (.cells #[sl, mp, rdF nb wb] 84 (0, 0))
theorem RdBx.ob {W V : World} {b : Nat} {sl mp : Value} {nb wb : Nat} (h : RdBx W b sl mp nb wb) (hb : Ob nb W V) (hn : b ≠ nb) : RdBx V b sl mp nb wb := (hb.block b (lt_at h) hn).trans h
theorem load_rd {W : World} {b : Nat} {sl mp : Value} {nb wb : Nat} (h : RdBx W b sl mp nb wb) : (Instr.loadAt 84 (.pointer (some ⟨b, 0, none⟩))).run Tryz.prog W = .ok (.agg #[sl, mp, rdF nb wb]) W := by
  have c0 : W.cell? ⟨b, 0, none⟩ = some sl := (cell_at h 0).trans rfl
  have c1 : W.cell? ⟨b, 1, none⟩ = some mp := (cell_at h 1).trans rfl
  have c2 : W.cell? ⟨b, 2, none⟩ = some (rdF nb wb) := (cell_at h 2).trans rfl
  unfold rdF at c2 ⊢
  go_simp
theorem field_rd (W : World) (b : Nat) : (Instr.fieldAt 84 (.pointer (some ⟨b, 0, none⟩)) 1).run Tryz.prog W = .ok (.pointer (some ⟨b, 2, none⟩)) W := by go_simp
end Go.Proofs.YtnkpohkodkjkfaaGreatDoor
namespace Go.Proofs.YtnkpohkodkjkfaaGreatDoor

/-- What Parse does with the characters. -/
def psGo (l : List Int) : Nat → Nat → List Int → Nat × Int × Int
  | N, _, [] => (N, 0, 0)
  | N, k, c :: t => if c ∈ l then (if N.testBit (l.idxOf c) then (0, (k : Int), 42) else psGo l (N ||| 2 ^ l.idxOf c) (k + 1) t) else (0, (k : Int), 41)
def dash : ByteArray := ⟨#[45]⟩
def parseR (l : List Int) (s : ByteArray) : Nat × Int × Int := if 65536 < s.size then (0, 0, 2) else if s.size = 0 then (0, 0, 40) else if s = dash then (0, 0, 0) else psGo l 0 0 (charsOf s)
theorem idx_lt {l : List Int} (h : Signs l) {c : Int} (hc : c ∈ l) : l.idxOf c < 100 := by
  have := List.idxOf_lt_length_iff.2 hc
  have := h.short
  omega
theorem or_lt100 {N i : Nat} (hN : N < S100) (hi : i < 100) : N ||| 2 ^ i < S100 := by
  have e : S100 = 2 ^ 100 := by decide
  rw [e] at hN ⊢
  exact Nat.or_lt_two_pow hN (Nat.pow_lt_pow_right (by decide) hi)
theorem cln_self {N : Nat} (h : N < S100) : cln N = N := Nat.mod_eq_of_lt h
end Go.Proofs.YtnkpohkodkjkfaaGreatDoor
namespace Go.Proofs.YtnkpohkodkjkfaaGreatDoor
open Go.RowKit Go.Shelf Go.Lib

def withV (N : Nat) (id : Int) : Value := if 0 ≤ id ∧ id < 100 then .tuple #[sv (cln N ||| 2 ^ id.toNat), .int .i64 0] else .tuple #[sv 0, .int .i64 30]
theorem pow_bit (i : Nat) : 2 ^ (i % 32) < 4294967296 := Nat.pow_lt_pow_right (a := 2) (n := 32) (by decide) (Nat.mod_lt _ (by decide))
set_option maxHeartbeats 1000000 in
set_option maxRecDepth 100000 in
theorem with_any (N : Nat) (id : Int) (w : World) : Calls Tryz.prog 148 #[sv N, .int .i64 id] w fun e w' => e = .returned (withV N id) ∧ Below w.heap.size w w' := by
  have hmx : Tryz.prog.follows .mixedOrders = true := by kernel_rfl
  have hc := clean_any N
  have hid := isId_any id
  by_cases h : 0 ≤ id ∧ id < 100
  · obtain ⟨i, rfl⟩ := Int.eq_ofNat_of_zero_le h.1
    have hi : i < 100 := by omega
    have hq : i / 32 < 4 := by omega
    simp only [h, and_self, decide_true] at hid
    have hV : withV N (i : Int) = .tuple #[sv (cln N ||| 2 ^ i), .int .i64 0] := by rw [withV, if_pos h]; rfl
    rw [hV]
    generalize cln N = M at *
    simp only [sv] at hc ⊢
    go_enter Tryz.func148, Tryz.ntmps148
    go_wp2_with (first | (go_at_call 155; refine (hid _).mono ?_; rintro e w1 ⟨rfl, rfl⟩) | (go_at_call 97; refine (hc _).mono ?_; rintro e w1 ⟨rfl, hb⟩; have q1 : Hid (Holds4 w1 w.heap.size (wd N)) := (hb.block _ (by simp; omega)).trans (get_oldQ (get_newQ (by simp))); have q2 : Hid (Holds4 w1 (w.heap.size + 1) (fun _ => 0)) := (hb.block _ (by simp)).trans (get_newQ (by simp)); obtain ⟨y0, y1, y2, y3, z0, z1, z2, z3⟩ := q1.out.facts))
    clear hc hid
    rename_i Q0 K0 hK
    refine wp_region_any hmx ?_
    have hb2 : Below w.heap.size w w1 := (((Below.refl _ w).alloc (by simp) _).alloc (by simp) _).trans (hb.mono (by simp; omega))
    refine wpAny_last 8 (fun i__ => ([(.int .i64 (i : Int)), (.int .i64 ((i / 32 : Nat) : Int)), (.pointer (some ⟨w.heap.size, i / 32, none⟩)), (.int .u32 ((wd M (i / 32) : Nat) : Int)), (.int .i64 (i : Int)), (.int .u32 ((2 ^ (i % 32) : Nat) : Int)), (.int .u32 ((wd M (i / 32) ||| 2 ^ (i % 32) : Nat) : Int)), (.pointer (some ⟨w.heap.size, i / 32, none⟩)), undef] : List Value).getD i__ undef) (fun W => Holds4 W w.heap.size (wd M) ∧ Holds4 W (w.heap.size + 1) (fun _ => 0) ∧ Below w.heap.size w W) (fun W => Holds4 W w.heap.size (wd (M ||| 2 ^ i)) ∧ Holds4 W (w.heap.size + 1) (fun _ => 0) ∧ Below w.heap.size w W) rfl (by kernel_rfl) (by kernel_rfl) ⟨fin4 q1.out M, (hold4 (by omega)).trans q2.out, (below4 hb2 (Nat.le_refl _) M).drew⟩ ?_ ?_  ?_
    · refine (stepsFrom_cons ?_ (stepsFrom_cons ?_ (stepsFrom_cons ?_ (stepsFrom_cons ?_ (stepsFrom_cons ?_ (stepsFrom_cons ?_ (stepsFrom_cons ?_ (stepsFrom_cons ?_ trivial))))))))
      · exact step_move rfl trivial _ rfl (by kernel_rfl)
      · exact step_binOp rfl trivial _ _ _ _ _ _ _ rfl rfl rfl (fun w hw => bin_quo64 i 32 (by omega) (by omega))
      · exact step_indexAddr rfl trivial _ _ _ _ _ rfl rfl rfl (fun w hw => idx4 _ _ hq w)
      · exact step_load rfl trivial _ _ _ rfl rfl (fun w hw => load4 w _ _ _ hw.1 hq)
      · exact step_move rfl trivial _ rfl (by kernel_rfl)
      · exact step_call rfl trivial 156 _ _ [(.int .i64 (i : Int))] rfl (by kernel_rfl) (enters_of Tryz.func156 (by kernel_rfl) rfl) (fun w hw => (bit_any i (by omega) w).mono (by rintro e w' ⟨rfl, rfl⟩; exact ⟨rfl, hw⟩))
      · exact step_binOp rfl trivial _ _ _ _ _ _ _ rfl rfl rfl (fun w hw => bin_or32 _ _ (wd_lt _ _) (pow_bit i))
      · exact step_indexAddr rfl trivial _ _ _ _ _ rfl rfl rfl (fun w hw => idx4 _ _ hq w)
    · intro o ho
      cases ho
      exact step_store rfl trivial rfl _ _ _ _ _ rfl rfl rfl (fun w' hw => by obtain ⟨w2, e1, e2, e3, e4⟩ := store4 w' _ _ _ _ hw.1 hq; refine ⟨w2, e1, e2.congr (fun j hj => ?_), (e4 _ (by omega)).trans hw.2.1, hw.2.2.trans (e3 _ (Nat.le_refl _))⟩; rw [wd_bit]; split <;> simp_all)
    intro W hW
    first | refine hK _ _ ?_ | refine (‹∀ (a : Act) (w : World), Code.wp Tryz.prog _ _ a w → _›) _ _ ?_ | skip
    simp only [finL, List.getD_cons_zero, List.getD_cons_succ, Nat.zero_add, Nat.reduceAdd, List.setIfInBounds_toArray, List.set_cons_zero, List.set_cons_succ]
    obtain ⟨g1, g2, g3⟩ := hW
    obtain ⟨x0, x1, x2, x3, _⟩ := g1.facts
    obtain ⟨u0, u1, u2, u3, v0, v1, v2, v3⟩ := g2.facts
    have H2 : Hid (Holds4 W (w.heap.size + 1) (fun _ => 0)) := g2
    clear g1 g2 hK q1 q2 y0 y1 y2 y3 z0 z1 z2 z3 hb hb2
    go_wp2
    exact ret4t rfl rfl rfl rfl (fin4 H2.out _) ⟨rfl, below4 g3 (by omega) _⟩
  · simp only [h, decide_false] at hid
    have hV : withV N id = .tuple #[sv 0, .int .i64 30] := by rw [withV, if_neg h]
    rw [hV]
    have g2 : Holds4 ((w.alloc (.cells (cells4 (wd N)) 24)).alloc (.cells (cells4 (fun _ => 0)) 24)) (w.heap.size + 1) (fun _ => 0) := get_newQ (by simp)
    simp only [sv]
    clear hc
    go_enter Tryz.func148, Tryz.ntmps148
    go_wp2_with (go_at_call 155; refine (hid _).mono ?_; rintro e w1 ⟨rfl, rfl⟩)
    refine ret4t (M := 0) rfl rfl rfl rfl (g2.congr (fun j _ => by simp [wd])) ⟨?_, ((Below.refl _ w).alloc (by simp) _).alloc (by simp) _⟩
    rfl
end Go.Proofs.YtnkpohkodkjkfaaGreatDoor
