/- A notice that is handed in, read; and read again behind the call. -/
import Derived.Test.YtnkpohkodkjkfaaGreatDoorJoJ13
import Derived.Test.YtnkpohkodkjkfaaGreatDoorRows
import Derived.ProofKit
import Derived.OpenShut
import Derived.Laws.IdiomArrays
import Derived.Deep.Strs
import Derived.Test.YtnkpohkodkjkfaaGreatDoorJoJ42
import Derived.Test.YtnkpohkodkjkfaaGreatDoorJoJ34
set_option maxHeartbeats 40000000
set_option maxRecDepth 100000
set_option linter.unusedVariables false
namespace Go.Proofs.YtnkpohkodkjkfaaGreatDoor
open Go.ChangeShapes Go.WideShapes Go.ChangeAt Go.RowKit

end Go.Proofs.YtnkpohkodkjkfaaGreatDoor
namespace Go.Proofs.YtnkpohkodkjkfaaGreatDoor
open Go.RowKit Go.Shelf Go.Lib

/-- What words are alike in, whatever the signs. -/
def sh (r : List Pc) : List (Int × Nat) := r.map (fun p => (p.1, p.2.length))
theorem sh_app (a b : List Pc) : sh (a ++ b) = sh a ++ sh b := List.map_append
theorem sh_cons (p : Pc) (r : List Pc) : sh (p :: r) = (p.1, p.2.length) :: sh r := rfl
theorem tks_sh : ∀ (r r' : List Pc) (n : Nat), sh r = sh r' → (tks n r).map (fun x => (x.1, x.2.2)) = (tks n r').map (fun x => (x.1, x.2.2)) ∧ (pcR r).length = (pcR r').length
  | [], [], _, _ => ⟨rfl, rfl⟩
  | [], _ :: _, _, h => by simp [sh] at h
  | _ :: _, [], _, h => by simp [sh] at h
  | (k, x) :: r, (k', x') :: r', n, h => by
    simp only [sh, List.map_cons, List.cons.injEq, Prod.mk.injEq] at h
    obtain ⟨⟨rfl, hx⟩, hr⟩ := h
    obtain ⟨h1, h2⟩ := tks_sh r r' (n + x.length) hr
    refine ⟨?_, ?_⟩
    · rw [tks, tks, List.map_append, List.map_append, ← hx, h1]
      by_cases h : k = 0
      · rw [if_pos h, if_pos h]
      · rw [if_neg h, if_neg h]; rfl
    · rw [pcR, pcR, List.length_append, List.length_append, hx, h2]
def kc (x : Tk4) : Int × Int := (x.1, x.2.2.2)
theorem wds_sh {r r' : List Pc} (h : sh r = sh r') : (wds r).map kc = (wds r').map kc := by
  obtain ⟨h1, h2⟩ := tks_sh r r' 0 h
  have h3 := congrArg (List.map (fun p : Int × Nat => ((p.1, (p.2 : Int)) : Int × Int))) h1
  rw [List.map_map, List.map_map] at h3
  unfold wds
  rw [List.map_append, List.map_append, List.map_map, List.map_map, h2]
  exact congrArg (· ++ _) h3
theorem sgs_len {L L' : List Int} (_h : L.length = L'.length) (l : List Nat) : (sgs L l).length = (sgs L' l).length := by
  unfold sgs
  rw [List.length_map, List.length_map]
theorem sh_set {L L' : List Int} (h : L.length = L'.length) (N : Nat) : ((setP L N).1, (setP L N).2.length) = ((setP L' N).1, (setP L' N).2.length) := by
  unfold setP
  split
  · rfl
  · exact congrArg (fun n => ((2 : Int), n)) (sgs_len h _)
theorem sh_ns {L L' : List Int} : ∀ ns : List N3t, sh (nsP L ns) = sh (nsP L' ns)
  | [] => rfl
  | [x] => rfl
  | x :: y :: r => by
    rw [nsP, nsP, sh_app, sh_app, sh_cons, sh_cons, sh_ns (y :: r)]
    rfl
theorem sh_news {L L' : List Int} (ns : List N3t) : sh (newsP L ns) = sh (newsP L' ns) := by
  unfold newsP
  rw [sh_cons, sh_cons, sh_app, sh_app, sh_ns (L := L) (L' := L') ns]
theorem sh_note {L L' : List Int} (h : L.length = L'.length) (kd : Nat) (fr : Int) (rd N : Nat) (ns : List N3t) : sh (noteP L kd fr rd N ns) = sh (noteP L' kd fr rd N ns) := by
  have hn := sh_news (L := L) (L' := L') ns
  have hs := sh_set h N
  unfold noteP
  split
  · rw [sh_cons, sh_cons, sh_cons, sh_cons, sh_cons, sh_cons, hn]; rfl
  · split
    · rw [sh_cons, sh_cons, sh_cons, sh_cons, sh_cons, sh_cons, sh_cons, sh_cons, hn, hs]; rfl
    · rw [sh_cons, sh_cons, sh_cons, sh_cons, hn]; rfl
theorem scan_note {L : List Int} (hS : Signs L) {kd : Nat} {fr rd : Int} {N : Nat} {ns : List N3t} (h3 : kd = 3 → rd = 0) (hl : ns.length ≤ 1000) (h0 : flt kd (L.length : Int) fr rd N ns = 0) (V : World) : Calls Tryz.prog 16 #[.string (tlT L kd fr rd N ns)] V fun e w' => ∃ ad cap, e = .returned (.tuple #[.slice ad (wds (noteP L kd fr rd.toNat N ns)).length cap, .int .i64 0, .int .i64 0, .int .i64 0]) ∧ RdK w' ad (wds (noteP L kd fr rd.toNat N ns)) ∧ Below V.heap.size V w' := by
  unfold tlT
  rw [if_pos h0]
  obtain ⟨g1, g2, g3, g4, g5⟩ := flt_0 h0
  obtain ⟨f, rfl⟩ := Int.eq_ofNat_of_zero_le g2.1
  have hV := nsV_of g5 hl
  have hr : rd.toNat ≤ 1099511627775 := by
    rcases g3 with h | h
    · rw [h3 h]; decide
    · omega
  exact scan_told _ (ok_note hS (by omega) hr g4 hV.v) (note_ne _ _ _ _ _ _) (note_short hr hV.v hl) V
/-- Words alike: at one place, kind and column. -/
theorem kc_at {l l' : List Tk4} (h : l.map kc = l'.map kc) {k : Nat} {x y : Tk4} (hx : l[k]? = some x) (hy : l'[k]? = some y) : x.1 = y.1 ∧ x.2.2.2 = y.2.2.2 := by
  have h1 : (l.map kc)[k]? = some (kc x) := by rw [List.getElem?_map, hx]; rfl
  have h2 : (l'.map kc)[k]? = some (kc y) := by rw [List.getElem?_map, hy]; rfl
  rw [h, h2] at h1
  have := Option.some.inj h1
  exact ⟨(congrArg Prod.fst this).symm, (congrArg Prod.snd this).symm⟩
/-- Two rosters and a note in their boxes. -/
structure JN8 (w : World) (b p q : Nat) (k f r : Int) (N : Nat) (v sl mp sl' mp' : Value) (V : World) : Prop where
  be : Below w.heap.size w V
  bn : Nb8 V b k f r N v
  bx : V.heap[p]? = some (.cells #[sl, mp] 33 (0, 0))
  bz : V.heap[q]? = some (.cells #[sl', mp'] 33 (0, 0))
theorem JN8.carry {w : World} {b p q : Nat} {k f r : Int} {N : Nat} {v sl mp sl' mp' : Value} {V U : World} (h : JN8 w b p q k f r N v sl mp sl' mp' V) (hb : Below V.heap.size V U) : JN8 w b p q k f r N v sl mp sl' mp' U := ⟨bel3 h.be hb, h.bn.carry hb, (hb.block _ (lt_at h.bx)).trans h.bx, (hb.block _ (lt_at h.bz)).trans h.bz⟩
theorem bi_lenN8 (t : TypeId) (bs : Array Bool) (a : Option Addr) (n c : Nat) (w : World) : (builtin .len #[25] t bs #[.slice a n c]).run Tryz.prog w = .ok (.value (.int .i64 (n : Int))) w := by
  show ((do pure (.value (← Builtin.len_ #[25] t #[.slice a n c]))) : Sem Next).run Tryz.prog w = _
  go_simp
theorem field_n8 (W : World) (b : Nat) : (Instr.fieldAt 27 (.pointer (some ⟨b, 0, none⟩)) 4).run Tryz.prog W = .ok (.pointer (some ⟨b, 7, none⟩)) W := by go_simp
theorem field_t3 (W : World) (b o : Nat) : (Instr.fieldAt 56 (.pointer (some ⟨b, o, none⟩)) 3).run Tryz.prog W = .ok (.pointer (some ⟨b, o + 3, none⟩)) W := by go_simp
theorem field_t0 (W : World) (b o : Nat) : (Instr.fieldAt 56 (.pointer (some ⟨b, o, none⟩)) 0).run Tryz.prog W = .ok (.pointer (some ⟨b, o, none⟩)) W := by go_simp
theorem tks_le : ∀ (r : List Pc) (n : Nat), (tks n r).length ≤ r.length
  | [], _ => Nat.le_refl _
  | (k, x) :: r, n => by
    have h := tks_le r (n + x.length)
    rw [tks, List.length_append, List.length_cons]
    split
    · simp; omega
    · simp; omega
theorem nsP_le (L : List Int) : ∀ ns : List N3t, (nsP L ns).length ≤ 4 * ns.length
  | [] => by simp [nsP]
  | [x] => by simp [nsP, ntP]
  | x :: y :: r => by
    have h := nsP_le L (y :: r)
    have e : (nsP L (x :: y :: r)).length = 3 + (1 + (nsP L (y :: r)).length) := by rw [nsP, List.length_append, List.length_cons, Nat.add_comm (nsP L (y :: r)).length 1]; rfl
    rw [e, List.length_cons]
    omega
theorem wds_le (L : List Int) (kd : Nat) (fr : Int) (rd N : Nat) (ns : List N3t) (h : ns.length ≤ 1000) : (wds (noteP L kd fr rd N ns)).length ≤ 5000 := by
  have h1 := tks_le (noteP L kd fr rd N ns) 0
  have h2 := nsP_le L ns
  have h3 : (newsP L ns).length = 1 + ((nsP L ns).length + 1) := by unfold newsP; rw [List.length_cons, List.length_append, Nat.add_comm _ 1]; rfl
  have h4 : (noteP L kd fr rd N ns).length ≤ 8 + (newsP L ns).length := by
    unfold noteP
    split
    · simp only [List.length_cons]; omega
    · split
      · simp only [List.length_cons]; omega
      · simp only [List.length_cons]; omega
  unfold wds
  rw [List.length_append, List.length_map, List.length_singleton]
  omega
theorem nq_t {P : Program} {t : TypeId} {x y : Operand} {w : World} (k : IntKind) (a b : Int) (h : ¬ a = b) : binRun P .neq t x y (.int k a) (.int k b) w = .ok (.bool true) w := by simp [binRun, go_sem, h]
theorem nq_f {P : Program} {t : TypeId} {x y : Operand} {w : World} (k : IntKind) (a b : Int) (h : a = b) : binRun P .neq t x y (.int k a) (.int k b) w = .ok (.bool false) w := by subst h; simp [binRun, go_sem]
theorem gq_t {P : Program} {t : TypeId} {x y : Operand} {w : World} (k : IntKind) (a b : Int) (h : b < a) : binRun P .gtr t x y (.int k a) (.int k b) w = .ok (.bool true) w := by simp [binRun, go_sem, h]
theorem gq_f {P : Program} {t : TypeId} {x y : Operand} {w : World} (k : IntKind) (a b : Int) (h : ¬ b < a) : binRun P .gtr t x y (.int k a) (.int k b) w = .ok (.bool false) w := by simp [binRun, go_sem, h]
theorem ld_i {W : World} {b o : Nat} {x : Int} (h : W.cell? ⟨b, o, none⟩ = some (.int .i64 x)) : (Instr.loadAt 3 (.pointer (some ⟨b, o, none⟩))).run Tryz.prog W = .ok (.int .i64 x) W := by go_simp
theorem ld_n {W : World} {b o : Nat} {a : Option Addr} {n c : Nat} (h : W.cell? ⟨b, o, none⟩ = some (.slice a n c)) : (Instr.loadAt 25 (.pointer (some ⟨b, o, none⟩))).run Tryz.prog W = .ok (.slice a n c) W := by go_simp
end Go.Proofs.YtnkpohkodkjkfaaGreatDoor
