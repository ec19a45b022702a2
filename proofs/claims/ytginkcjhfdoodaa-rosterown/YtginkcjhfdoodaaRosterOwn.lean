/- RosterOwn: at every text: the nodes' signs are what Go's own range tells, each with its place among them; there are just as many, and no two alike. -/
import Derived.Test.YtginkcjhfdoodaaRows
import Derived.WalkKit
import Derived.ProofKit
import Derived.OpenShut
import Derived.ChangeMaps5
import Derived.Test.YtginkcjhfdoodaaRsc
namespace Go.Proofs.Ytginkcjhfdoodaa
open Go.ChangeShapes Go.WideShapes Go.ChangeAt Go.RowKit Go.ChangeMaps
set_option linter.unusedVariables false


theorem own : ownKnob Try.prog.godebug = none := by kernel_rfl
open Go.Shelf Go.Lib
theorem sign_hit {l : List Int} {k : Nat} {c : Int} (h : l[k]? = some c) : signV l (k : Int) = .tuple #[.int .i32 c, .int .i64 0] := by
  unfold signV
  rw [if_neg (by omega), Int.toNat_natCast, h]
theorem id_hit {l : List Int} {k : Nat} {c : Int} (hn : l.Nodup) (h : l[k]? = some c) : idV l c = .tuple #[.int .i64 (k : Int), .int .i64 0] := by
  obtain ⟨hk, rfl⟩ := List.getElem?_eq_some_iff.1 h
  unfold idV
  rw [if_pos (List.getElem_mem hk), hn.idxOf_getElem k hk]
set_option maxHeartbeats 4000000 in
set_option maxRecDepth 100000 in
theorem walk (s0 : ByteArray) (w0 : s0.size ≤ maxLen) (w : World) :
    Calls Try.prog 4 #[.string s0] w fun e w' => e = .returned (.bool true) ∧ Below w.heap.size w w' := by
  have hrd := read_any s0 w0
  have hal := alive_any
  unfold RdV at hrd
  by_cases he : (readR s0).2.2 = 0
  · obtain ⟨hR, hs1, hs2, hsg⟩ := read_ok he
    rw [hR] at hrd
    have htx := text_letters s0 hsg.letter
    have hpos := chars_pos hs2
    have hsh := hsg.short
    have hnd := hsg.nodup
    have hlen := charsFrom_length s0 s0.size 0 (by omega)
    have HC : Hid (charsFrom s0 s0.size 0 = charsOf s0) := rfl
    rw [HC.out] at hlen
    clear hR he hsg
    generalize charsOf s0 = cs at *
    have hrd0 := hrd w
    clear hrd
    have HX : Hid (txt cs = s0) := htx
    clear htx
    go_enter Try.func4, Try.ntmps4
    go_wp2_with (go_at_call 7; refine hrd0.mono ?_; rintro e w1 ⟨⟨v, rfl, hv⟩, hb1⟩; obtain ⟨ad, cap, mb, rfl⟩ := hv.form; have hz1 := hb1.size)
    go_loopw [6] (fun c wr => ∃ (pos fuel : Nat) (pre : List Int), cs = pre ++ charsFrom s0 fuel pos ∧ s0.size ≤ pos + fuel ∧ c = .int .i64 pre.length ∧ wr.heap[w1.heap.size]? = some (.cells #[.slice ad cs.length cap, .map mb] 25 (0, 0)) ∧ wr.heap[w1.heap.size + 1]? = some (.stringIter s0 pos) ∧ Ros w1.heap.size wr (.agg #[.slice ad cs.length cap, .map mb]) cs ∧ Below w.heap.size w wr) (fun _ wr => s0.size - wr.iterPos (w1.heap.size + 1))
    case atStart =>
      exact ⟨0, s0.size, [], HC.out.symm, by omega, rfl, old_at (new_at rfl), new_at (by simp), (hv.alloc (Nat.le_refl _) _).alloc (by simp) _, (hb1.alloc hz1 _).alloc (by simp; omega) _⟩
    case round =>
      obtain ⟨pos, fuel, pre, hcs, hfu, rfl, hvar, hit, hros, hbw⟩ := hrel
      have hlt := lt_at hit
      by_cases hp : pos < s0.size
      · have hnx : ∀ ty, (Instr.next (.pointer (some ⟨w1.heap.size + 1, 0, none⟩)) true ty).run Try.prog wr = .ok (.tuple #[.bool true, .int .i64 pos, .int .i32 (rn s0 pos)]) (wr.iterAt (w1.heap.size + 1) s0 (pos + wdt s0 pos)) := fun ty => Lib.run_next_any_at wr (w1.heap.size + 1) s0 pos ty hit hp
        have hwd := wdt_pos s0 pos
        have hrn := rn_le s0 pos
        have hbi := Lib.below_iterAt (Below.refl (w1.heap.size + 1) wr) (Nat.le_refl _) s0 (pos + wdt s0 pos)
        have hit2 := Lib.iterAt_heap wr (w1.heap.size + 1) s0 pos (pos + wdt s0 pos) hit
        have hmeas : wr.iterPos (w1.heap.size + 1) = pos := by simp only [World.iterPos, hit]
        have hwsz := Lib.iterAt_size wr (w1.heap.size + 1) s0 (pos + wdt s0 pos)
        obtain ⟨f, rfl⟩ : ∃ f, fuel = f + 1 := ⟨fuel - 1, by omega⟩
        rw [charsFrom_step s0 f pos hp] at hcs
        generalize wr.iterAt (w1.heap.size + 1) s0 (pos + wdt s0 pos) = W1 at *
        have hros1 := hros.below (hbi.mono (Nat.le_succ _))
        have hvar1 := (hbi.block _ (Nat.lt_succ_self _)).trans hvar
        have hget : cs[pre.length]? = some (rn s0 pos : Int) := by rw [hcs]; simp
        have hS := sign_hit hget
        have hI := id_hit hnd hget
        have hln : pre.length < cs.length := (List.getElem?_eq_some_iff.1 hget).1
        have HG : Hid (cs = pre ++ (rn s0 pos : Int) :: charsFrom s0 f (pos + wdt s0 pos)) := hcs
        clear hget hcs
        have c0 := cell_at hvar1 0
        have c1 := cell_at hvar1 1
        go_wp2_with (first | (go_at_call 12; refine (sign_any _ hros1 (by omega) _).mono ?_; rintro e w2 ⟨rfl, hb2⟩; rw [hS]; have hros2 := hros1.call (by omega) hb2; have hz2 := hb2.size; have hvar2 := (hb2.block _ (by omega)).trans hvar1; have d0 := cell_at hvar2 0; have d1 := cell_at hvar2 1) | (go_at_call 13; refine (id_any _ hros2 (by omega) (by omega) (by omega)).mono ?_; rintro e w3 ⟨rfl, hb3⟩; rw [hI]))
        go_roundw
        case rel =>
          have hz3 := hb3.size
          refine ⟨pos + wdt s0 pos, f, pre ++ [(rn s0 pos : Int)], by rw [HG.out]; simp, by omega, by simp, (hb3.block _ (by omega)).trans hvar2, (hb3.block _ (by omega)).trans ((hb2.block _ (by omega)).trans hit2), hros2.call (by omega) hb3, ?_⟩
          exact ((hbw.trans (hbi.mono (by omega))).trans (hb2.mono (by omega))).trans (hb3.mono (by omega))
        case measure =>
          have hz3 := hb3.size
          simp only [World.iterPos, (hb3.block _ (by omega)).trans ((hb2.block _ (by omega)).trans hit2), hit]
          omega
      · have hnx : ∀ ty, (Instr.next (.pointer (some ⟨w1.heap.size + 1, 0, none⟩)) true ty).run Try.prog wr = .ok (.tuple #[.bool false]) wr := fun ty => Lib.run_next_end_at wr (w1.heap.size + 1) s0 pos ty hit hp
        rw [charsFrom_end s0 fuel pos hp, List.append_nil] at hcs
        subst hcs
        have hsz : (1 : Int) ≤ cs.length := by omega
        have h100 : decide ((cs.length : Int) ≤ 100) = true := decide_eq_true (by omega)
        go_wp2_with (first | (go_at_call 9; refine (hal _).mono ?_; rintro e w2 ⟨rfl, hb2⟩; have hros2 := hros.call (by omega) hb2; have hz2 := hb2.size; have hvar2 := (hb2.block _ (by omega)).trans hvar; have d0 := cell_at hvar2 0; have d1 := cell_at hvar2 1) | (go_at_call 10; refine (size_any _ hros2).mono ?_; rintro e w3 ⟨rfl, hb3⟩; have hros3 := hros2.call (by omega) hb3; have hz3 := hb3.size; have hvar3 := (hb3.block _ (by omega)).trans hvar2; have f0 := cell_at hvar3 0; have f1 := cell_at hvar3 1) | (go_at_call 11; refine (text_any _ hros3 (by omega)).mono ?_; rintro e w4 ⟨rfl, hb4⟩; rw [HX.out]))
        go_ret
        refine ⟨rfl, ((hbw.trans (hb2.mono (by omega))).trans (hb3.mono (by omega))).trans (hb4.mono (by omega))⟩
  · have hb := read_bad he
    generalize readR s0 = R at *
    obtain ⟨l, x, y⟩ := R
    dsimp only at he hb hrd
    subst hb
    have hne : (y == 0) = false := beq_eq_false_iff_ne.2 he
    have HX : Hid (txt [] = ⟨#[]⟩) := rfl
    have hrd0 := hrd w
    clear hrd
    go_enter Try.func4, Try.ntmps4
    go_wp2_with (first | (go_at_call 7; refine hrd0.mono ?_; rintro e w1 ⟨⟨v, rfl, hv⟩, hb1⟩; obtain ⟨ad, cap, mb, rfl⟩ := hv.form; have hz1 := hb1.size; have hros1 := hv.alloc (Nat.le_refl _) (.cells #[.slice ad 0 cap, .map mb] 25)) | (go_at_call 9; refine (hal _).mono ?_; rintro e w2 ⟨rfl, hb2⟩; have hros2 := hros1.call (by simp) hb2; have hz2 := hb2.size; have hvar2 : w2.heap[w1.heap.size]? = some (.cells #[.slice ad 0 cap, .map mb] 25 (0, 0)) := (hb2.block _ (by simp)).trans (new_at rfl); have d0 := cell_at hvar2 0; have d1 := cell_at hvar2 1; have hlt2 := lt_at hvar2) | (go_at_call 10; refine (size_any _ hros2).mono ?_; rintro e w3 ⟨rfl, hb3⟩; have hros3 := hros2.call (by omega) hb3; have hz3 := hb3.size; have hvar3 := (hb3.block _ (by omega)).trans hvar2; have f0 := cell_at hvar3 0; have f1 := cell_at hvar3 1) | (go_at_call 11; refine (text_any _ hros3 (by omega)).mono ?_; rintro e w4 ⟨rfl, hb4⟩; rw [HX.out]))
    go_ret
    exact ⟨rfl, (((hb1.alloc hz1 _).trans (hb2.mono (by simp; omega))).trans (hb3.mono (by omega))).trans (hb4.mono (by omega))⟩

set_option maxRecDepth 100000 in
theorem lifted (os : Os) (started : os.Started) (H : Type) (enc : TypeId × Value → H) :
    ReturnsInHanded {} Try.checked os 4 .any (Rows.rosterOwnSpec.pre6 enc Try.prog Try.f4 Rows.rosterOwnRow.domain false) (Rows.rosterOwnSpec.post enc Try.prog Try.f4 false true false false) := by
  refine returnsInHanded_of_change (C := Try.checked) own started (by kernel_rfl) Try.func4
    (ChangeSpec.witness6 (enc := enc) (C := Try.checked) false ⟨#[], #[.string ByteArray.empty], []⟩ 8 (by kernel_rfl) (by kernel_rfl) (by kernel_rfl) (by kernel_rfl)) ?_
  intro W base args ds gs before hval0 hW hcnd _
  have hval : ∀ (j : Nat) t v, Try.f4.params[j]? = some t → args[j]? = some v → Value.okWide Try.prog W .any base t v := hval0
  have hW' := hW
  obtain ⟨p, q, hA0, hV, rfl, hfz, hnd⟩ := hW
  have hA : DataW.TrodAll enc Try.prog W 0 (fun _ => true) true Try.f4.params.toList args.toList ds p := hA0
  rw [Try.params4] at hA hval
  obtain ⟨v0, vs0, d0, ds0, p0, q0, hargs, rfl, rfl, h0, r0⟩ := trodAll_cons hA
  obtain ⟨rfl, rfl, rfl⟩ := trodAll_nil r0
  obtain rfl : args = #[v0] := by cases args; simp_all
  obtain ⟨rfl, rfl⟩ := trodVars_none hV
  obtain ⟨s0, rfl, rfl, rfl, w0⟩ := open_string Try.underlying9 (hval 0 9 v0 rfl rfl) h0
  clear hA0 hval0
  simp only [List.append_nil] at hW'
  refine (walk s0 w0 W).mono fun e W' ⟨he, hg⟩ => ?_
  subst he
  exact ⟨_, rfl, _, _, _, [], _, [], hW', (trodAll_cons_mk (shut_bool Try.underlying4 _) trodAll_mk0), (trodAll_cons_mk (shut_string Try.underlying9 w0) trodAll_mk0), rfl, hg.frame _, fun h => by cases h⟩

theorem over : Rows.rosterOwnRow.holds Try.pinned (OpenSpec.ofChange Rows.rosterOwnSpec) :=
  OpenClaim.holds_of_wide 4 Try.f4 rfl rfl rfl rfl rfl rfl rfl ⟨rfl, rfl, rfl, rfl, rfl⟩ rfl rfl rfl rfl rfl (by kernel_rfl) Try.func4 (by kernel_rfl)
    (of_decide_eq_true (by kernel_rfl)) (by unfold Func.isWrapper; first | (rw [if_pos (by decide +kernel)]; kernel_rfl) | (rw [if_neg (by decide +kernel)]; exact ⟨rfl, rfl⟩))
    (fun os started H enc _ => lifted os started H enc)

theorem proved : Rows.RosterOwnSaid :=
  over
#print axioms proved
end Go.Proofs.Ytginkcjhfdoodaa
