/- The document's Rising, SameNotices: what they answer. -/
import Derived.Test.YtnkpohkodkjkfaaGreatDoorJoJ29
import Derived.Test.YtnkpohkodkjkfaaGreatDoorJoJ12
import Derived.Test.YtnkpohkodkjkfaaGreatDoorRows
import Derived.ProofKit
import Derived.OpenShut
import Derived.ChangeOld
import Derived.Below
import Derived.Deep.Slices
import Derived.Deep.Strs
set_option maxHeartbeats 40000000
set_option maxRecDepth 100000
set_option linter.unusedVariables false
namespace Go.Proofs.YtnkpohkodkjkfaaGreatDoor
open Go.RowKit Go.Shelf

theorem idx_n (gb off n cap i : Nat) (h : i < n) (W : World) : (Instr.indexAt 25 (.slice (some ⟨gb, off, none⟩) n cap) (.int .i64 (i : Int))).run Tryz.prog W = .ok (.pointer (some ⟨gb, off + i * 3, none⟩)) W := by
  have h1 : (i : Int) < (n : Int) := by omega
  have h2 : 0 ≤ (i : Int) := by omega
  go_simp
theorem load_at {W : World} {b off : Nat} {l : List (Int × Int × Int)} (h : NtsAt W b off l) {k : Nat} {o t q : Int} (hx : l[k]? = some (o, t, q)) : (Instr.loadAt 99 (.pointer (some ⟨b, off + k * 3, none⟩))).run Tryz.prog W = .ok (nt o t q) W := by
  obtain ⟨c0, c1, c2⟩ := h k _ hx
  unfold nt
  go_simp
theorem un_notQ {P : Program} (a : Bool) (w : World) : (Op.unary .not (.bool a)).run P w = .ok (.bool (!a)) w := by
  cases a <;> simp [go_sem]
/-- What lies there: two lists. -/
structure JI (w : World) (b off : Nat) (l : List (Int × Int × Int)) (c of : Nat) (m : List (Int × Int × Int)) (W : World) : Prop where
  lt : b < W.heap.size
  at' : NtsAt W b off l
  lt2 : c < W.heap.size
  at2 : NtsAt W c of m
  below : Below w.heap.size w W
theorem NtsAt.carry {W W' : World} {b off : Nat} {l : List (Int × Int × Int)} (h : NtsAt W b off l) (hl : b < W.heap.size) (hb : Below W.heap.size W W') : NtsAt W' b off l := fun k x hk => by
  obtain ⟨c0, c1, c2⟩ := h k x hk
  exact ⟨(hb.cell (p := ⟨b, _, none⟩) hl).trans c0, (hb.cell (p := ⟨b, _, none⟩) hl).trans c1, (hb.cell (p := ⟨b, _, none⟩) hl).trans c2⟩
theorem JI.carry {w : World} {b off c of : Nat} {l m : List (Int × Int × Int)} {W W' : World} (h : JI w b off l c of m W) (hb : Below W.heap.size W W') : JI w b off l c of m W' :=
  ⟨Nat.lt_of_lt_of_le h.lt hb.size, h.at'.carry h.lt hb, Nat.lt_of_lt_of_le h.lt2 hb.size, h.at2.carry h.lt2 hb, bel2 h.below hb⟩

set_option maxHeartbeats 4000000 in
set_option maxRecDepth 100000 in
theorem same_any (ad ad2 : Option Addr) (cap cap2 : Nat) (l : List (Int × Int × Int)) (w : World) (h : RdN w ad l) (h2 : RdN w ad2 l) (hl : l.length ≤ 6000000000000) : Calls Tryz.prog 29 #[.slice ad l.length cap, .slice ad2 l.length cap2] w fun e w' => e = .returned (.bool true) ∧ Below w.heap.size w w' := by
  have hmx : Tryz.prog.follows .mixedOrders = true := by kernel_rfl
  go_enter Tryz.func29, Tryz.ntmps29
  go_wp2
  go_loopw [5] (fun i wz => ∃ (k : Nat), i = .int .i64 k ∧ k ≤ l.length ∧ Below w.heap.size w wz) (fun i _ => l.length - vnatR i)
  case atStart => exact ⟨0, rfl, Nat.zero_le _, Below.refl _ _⟩
  case round =>
    obtain ⟨k, rfl, hk, hbw⟩ := hrel
    by_cases hkl : k < l.length
    · have hne : l ≠ [] := fun e => by subst e; simp at hkl
      obtain ⟨b, off, e1, hbl, hat⟩ := h.carry hbw hne
      obtain ⟨c, of, e2, hcl, hat2⟩ := h2.carry hbw hne
      subst e1 e2
      have hj : JI w b off l c of l wr := ⟨hbl, hat, hcl, hat2, hbw⟩
      obtain ⟨⟨o, t, q⟩, hx⟩ : ∃ x, l[k]? = some x := ⟨_, List.getElem?_eq_getElem hkl⟩
      have hki : (k : Int) < (l.length : Int) := by omega
      clear hat hat2
      go_wp2
      rename_i Q0 K0 hK
      refine wp_region_any hmx ?_
      refine wpAny_pure (fun i__ => ([(.slice (some ⟨b, off, none⟩) l.length cap), (.int .i64 (k : Int)), (.pointer (some ⟨b, off + k * 3, none⟩)), (nt o t q), (.slice (some ⟨c, of, none⟩) l.length cap2), (.int .i64 (k : Int)), (.pointer (some ⟨c, of + k * 3, none⟩)), (nt o t q), (.bool true), (.bool false)] : List Value).getD i__ undef) (fun W => JI w b off l c of l W) (by kernel_rfl) (hj.carry (Below.refl _ _).drew) ?_ ?_
      · refine (stepsFrom_cons ?_ (stepsFrom_cons ?_ (stepsFrom_cons ?_ (stepsFrom_cons ?_ (stepsFrom_cons ?_ (stepsFrom_cons ?_ (stepsFrom_cons ?_ (stepsFrom_cons ?_ (stepsFrom_cons ?_ (stepsFrom_cons ?_ trivial))))))))))
        · exact step_move rfl trivial _ rfl (by kernel_rfl)
        · exact step_move rfl trivial _ rfl (by kernel_rfl)
        · exact step_indexAddr rfl trivial _ _ _ _ _ rfl rfl rfl (fun w hw => idx_n b off l.length cap k hkl w)
        · exact step_load rfl trivial _ _ _ rfl rfl (fun w hw => load_at hw.at' hx)
        · exact step_move rfl trivial _ rfl (by kernel_rfl)
        · exact step_move rfl trivial _ rfl (by kernel_rfl)
        · exact step_indexAddr rfl trivial _ _ _ _ _ rfl rfl rfl (fun w hw => idx_n c of l.length cap2 k hkl w)
        · exact step_load rfl trivial _ _ _ rfl rfl (fun w hw => load_at hw.at2 hx)
        · exact step_binOp rfl trivial _ _ _ _ _ _ _ rfl rfl rfl (fun w hw => (bin_eqn _ _ _ _ _ _).trans (by simp))
        · exact step_unOp rfl trivial _ _ _ _ rfl rfl (fun w hw => un_notQ _ w)
      intro W hW
      first | refine hK _ _ ?_ | refine (‹∀ (a : Act) (w : World), Code.wp Tryz.prog _ _ a w → _›) _ _ ?_ | skip
      simp only [finL, List.getD_cons_zero, List.getD_cons_succ, Nat.zero_add, Nat.reduceAdd, List.setIfInBounds_toArray, List.set_cons_zero, List.set_cons_succ]
      clear hK
      go_wp2
      go_roundw
      case rel => exact ⟨k + 1, by simp, by omega, hW.below⟩
      case measure => simp [vnatR]; omega
    · have hkk : k = l.length := by omega
      subst hkk
      go_wp2
      go_ret
      exact ⟨rfl, hbw⟩
end Go.Proofs.YtnkpohkodkjkfaaGreatDoor
namespace Go.Proofs.YtnkpohkodkjkfaaGreatDoor
open Go.ChangeShapes Go.WideShapes Go.ChangeAt Go.RowKit

theorem cellsIM : Tryz.prog.cellsOf 3 = 1 := by kernel_rfl
theorem cellsNM : Tryz.prog.cellsOf 99 = 3 := by kernel_rfl
theorem cell_ltM {W : World} {a : Addr} {v : Value} (h : W.cell? a = some v) : a.block < W.heap.size := by
  unfold World.cell? at h
  cases hb : W.heap[a.block]? with
  | none => simp [hb] at h
  | some o => exact (Array.getElem?_eq_some_iff.1 hb).1
set_option maxRecDepth 100000 in
/-- One notice, out of its cells. -/
theorem one_nt {H : Type} {enc : TypeId × Value → H} {W : World} {n : Nat} {cs : List Value} {x : DataW H × List MemPlace} (hl : cs.length = 3) (h : DataW.trod enc Tryz.prog W 0 (fun _ => true) true n 99 cs = some x) : ∃ o t k : Int, cs = [.int .i64 o, .int .i64 t, .int .i64 k] := by
  obtain ⟨y0, y1, y2, m, hx, _, hy0, hy1, hy2⟩ := Deep.trod_struct3 Tryz.underlying99 h
  match cs, hl with
  | [c0, c1, c2], _ =>
    obtain ⟨x0, e0, _, _⟩ := DataW.trod_int Tryz.underlying3 hy0
    obtain ⟨x1, e1, _, _⟩ := DataW.trod_int Tryz.underlying3 hy1
    obtain ⟨x2, e2, _, _⟩ := DataW.trod_int Tryz.underlying3 hy2
    simp [cellsIM] at e0 e1 e2
    subst e0 e1 e2
    exact ⟨x0, x1, x2, rfl⟩
end Go.Proofs.YtnkpohkodkjkfaaGreatDoor
