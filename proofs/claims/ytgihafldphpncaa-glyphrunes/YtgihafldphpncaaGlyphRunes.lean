/- GlyphRunes: for every list of at most 2000 int32, and trivially for longer ones, the text that is written of them with string(rune) has just these characters; no condition. -/
import Derived.Test.YtgihafldphpncaaRows
import Derived.WalkKit
import Derived.ProofKit
import Derived.OpenShut
import Derived.ShutString
import Derived.Test.YtgihafldphpncaaChs
import Derived.Test.YtgihafldphpncaaRun
import Derived.ChangeOld
import Derived.Below
namespace Go.Proofs.Ytgihafldphpncaa
open Go.ChangeShapes Go.WideShapes Go.ChangeAt Go.RowKit
open Go.ChangeMaps (open_string shut_string)
set_option linter.unusedVariables false

theorem own : ownKnob Try.prog.godebug = none := by kernel_rfl
theorem laidOut : laidOutB Try.prog = true := by kernel_rfl

/-- WHAT THE WALK IS TOLD OF A SLICE OF INTEGERS THAT CAME IN: it is nil; or it leads to a row of 'cap' cells, the numbers 'zs' (the first 'len' are its elements, the rest its spare room), each fitting its kind. -/
def IsRow (k : IntKind) (w : World) (a : Option Addr) (len cap : Nat) (zs : List Int) : Prop :=
  (a = none ∧ len = 0 ∧ cap = 0 ∧ zs = []) ∨
  ∃ x, a = some x ∧ len ≤ cap ∧ cap ≤ maxLen ∧ zs.length = cap ∧ (∀ i, i < zs.length → w.cell? (x.add i) = some (.int k (zs.getD i 0))) ∧ ∀ n ∈ zs, (Lit.int k n).wf = true

theorem cell_lt {w : World} {a : Addr} {v : Value} (h : w.cell? a = some v) : a.block < w.heap.size := by
  unfold World.cell? at h
  cases ho : w.heap[a.block]? with
  | none => rw [ho] at h; cases h
  | some o => exact (Array.getElem?_eq_some_iff.1 ho).1
/-- What the walk is told of the list. -/
theorem row_form {w : World} {a0 : Option Addr} {len0 cap0 : Nat} {z0 : List Int} (h : IsRow .i32 w a0 len0 cap0 z0) (hl : 0 < len0) : ∃ b off, a0 = some ⟨b, off, none⟩ ∧ b < w.heap.size ∧ ∀ k, k < len0 → ∃ r, (z0.take len0)[k]? = some r ∧ w.cell? ⟨b, off + k, none⟩ = some (.int .i32 r) ∧ -2147483648 ≤ r ∧ r ≤ 2147483647 := by
  rcases h with ⟨_, h2, _⟩ | ⟨x, rfl, h1, h2, h3, h4, h5⟩
  · omega
  · obtain ⟨b, off, rfl, hc⟩ := ints_at h4 (by omega)
    refine ⟨b, off, rfl, cell_lt (hc 0 (by omega)), fun k hk => ?_⟩
    have hkl : k < z0.length := by omega
    have hg : z0.getD k 0 = z0[k] := by simp [List.getD_eq_getElem?_getD, List.getElem?_eq_getElem hkl]
    refine ⟨z0[k], ?_, ?_, bounds_i32 (h5 _ (List.getElem_mem hkl))⟩
    · rw [List.getElem?_take, if_pos hk, List.getElem?_eq_getElem hkl]
    · rw [hc k (by omega), hg]
theorem row_len {w : World} {a0 : Option Addr} {len0 cap0 : Nat} {z0 : List Int} (h : IsRow .i32 w a0 len0 cap0 z0) : (z0.take len0).length = len0 ∧ len0 ≤ maxLen := by
  rcases h with ⟨_, h2, _, rfl⟩ | ⟨x, rfl, h1, h2, h3, h4, h5⟩
  · subst h2; exact ⟨rfl, Nat.zero_le _⟩
  · rw [List.length_take]; omega
theorem plain_wr (s : ByteArray) (l : List Int) (h : s.data.toList = wr l) : (starts s).length = l.length ∧ plainB s = true ∧ ∀ (k : Nat) (r : Int), l[k]? = some r → ∃ p, (starts s)[k]? = some p ∧ rn s p = code r ∧ looseB s p = false := by
  obtain ⟨h1, h2⟩ := starts_wr s l [] s.size (by rw [h]; rfl) (by simp)
  have h1' : (starts s).length = l.length := h1
  have h2' : ∀ k p : Nat, (starts s)[k]? = some p → ∃ r, l[k]? = some r ∧ rn s p = code r ∧ looseB s p = false := h2
  refine ⟨h1', ?_, fun k r hk => ?_⟩
  · unfold plainB
    rw [List.all_eq_true]
    intro p hp
    obtain ⟨k, hk⟩ := List.getElem?_of_mem hp
    obtain ⟨r, _, _, h3⟩ := h2' k p hk
    simp [h3]
  · have hlt : k < (starts s).length := by have := (List.getElem?_eq_some_iff.1 hk).1; omega
    obtain ⟨r', e1, e2, e3⟩ := h2' k _ (List.getElem?_eq_getElem hlt)
    rw [hk] at e1
    cases e1
    exact ⟨_, List.getElem?_eq_getElem hlt, e2, e3⟩

set_option maxHeartbeats 4000000 in
theorem walk (a0 : Option Addr) (len0 cap0 : Nat) (z0 : List Int) (w : World) (w0 : IsRow .i32 w a0 len0 cap0 z0) :
    Calls Try.prog 7 #[.slice a0 len0 cap0] w fun e w' => e = .returned (.bool true) ∧ Below w.heap.size w w' := by
  obtain ⟨hlz, hlm⟩ := row_len w0
  unfold maxLen at hlm
  have hform := row_form w0
  clear w0
  by_cases hbig : 2000 < len0
  · go_enter Try.func7, Try.ntmps7
    go_wp2_with fail
    refine (alive_any _).mono ?_
    rintro e w1 ⟨rfl, hb1⟩
    go_wp2
    go_ret
    exact ⟨rfl, hb1⟩
  · have hgt : decide (2000 < (len0 : Int)) = false := by simp; omega
    generalize z0.take len0 = l at *
    go_enter Try.func7, Try.ntmps7
    go_wp2
    go_loop [3, 4] (fun sv i => ∃ (k : Nat) (S : ByteArray), k ≤ len0 ∧ i = .int .i64 k ∧ sv = .string S ∧ S.data.toList = wr (l.take k)) (fun _ i => len0 - (intOf i).toNat)
    case atStart => exact ⟨0, ⟨#[]⟩, Nat.zero_le _, rfl, rfl, rfl⟩
    case round =>
      obtain ⟨k, S, hk, rfl, rfl, hS⟩ := hrel
      have hSz : S.size ≤ 8000 := by
        have h1 := wr_len (l.take k)
        have h2 : S.data.toList.length = S.size := by simp
        have h3 : (l.take k).length ≤ k := List.length_take_le _ _
        rw [hS] at h2
        omega
      have HS : Hid (S.data.toList = wr (l.take k)) := hS
      clear hS
      by_cases hlt : k < len0
      · obtain ⟨b, off, rfl, hbl, hcs⟩ := hform (by omega)
        obtain ⟨r, hr1, hr2, hr3, hr4⟩ := hcs k hlt
        have hlti : (k : Int) < (len0 : Int) := by omega
        have hE4 : (Utf8.encode r).size ≤ 4 := by
          have h1 := enc_len r
          have h2 : (Utf8.encode r).data.toList.length = (Utf8.encode r).size := by simp
          have h3 := (clen_pos (code r)).2
          omega
        have hadd : ¬ 9223372036854775807 < S.size + (Utf8.encode r).size := by omega
        have HR : Hid (l.take (k + 1) = l.take k ++ [r]) := by
          show l.take (k + 1) = _
          rw [List.take_add_one, hr1]
          rfl
        clear hform hcs hr1
        go_wp2
        go_round
        case rel =>
          refine ⟨k + 1, S ++ Utf8.encode r, by omega, by go_num, rfl, ?_⟩
          rw [HR.out, wr_append, ← HS.out]
          simp [wr, ByteArray.data_append]
        case measure => simp [intOf]; omega
      · have hkl : l.take k = l := List.take_of_length_le (by omega)
        have HS2 : Hid (S.data.toList = wr l) := by show S.data.toList = wr l; rw [HS.out, hkl]
        obtain ⟨hp1, hp2, hp3⟩ := plain_wr S l HS2.out
        have HP2 : Hid (plainB S = true) := hp2
        clear HS hkl hp2
        go_wp2_with fail
        refine (chars_any S (by omega) _).mono ?_
        rintro e w1 ⟨v, rfl, hrow, hb1⟩
        obtain ⟨ad, cap, rfl, hrf⟩ := ownsRow_form hrow
        have hll : (starts S).length = len0 := by omega
        clear hrow hp1
        rw [hll] at hrf ⊢
        have hne : ((len0 : Int) != (len0 : Int)) = false := by simp
        go_wp2_with fail
        refine (plain_any S (by unfold maxLen; omega) _).mono ?_
        rintro e w2 ⟨rfl, hb2⟩
        rw [HP2.out]
        have hbz := hb1.size
        have hbw : Below w.heap.size w w2 := hb1.trans (hb2.mono hbz)
        go_wp2
        go_loop [7] (fun i => ∃ k : Nat, k ≤ len0 ∧ i = .int .i64 k) (fun i => len0 - (intOf i).toNat)
        case atStart => exact ⟨0, Nat.zero_le _, rfl⟩
        case round =>
          obtain ⟨j, hj, rfl⟩ := hrel
          by_cases hjl : j < len0
          · obtain ⟨b, off, rfl, hbl, hcs⟩ := hform (by omega)
            obtain ⟨r, hr1, hr2, hr3, hr4⟩ := hcs j hjl
            obtain ⟨p, hg, hq1, hq2⟩ := hp3 j r hr1
            obtain ⟨g, rfl, hg1, hg2, hg3, hcells⟩ := hrf (by omega)
            have cr : w2.cell? ⟨b, off + j, none⟩ = some (.int .i32 r) := (hbw.cell (p := ⟨b, off + j, none⟩) hbl).trans hr2
            have c0 : w2.cell? ⟨g, j * 4, none⟩ = some (.int .i32 (code r)) := by
              have := hcells _ _ (flat_get S _ j 0 p hg (by omega))
              rw [hb2.cell (p := ⟨g, j * 4, none⟩) hg2]
              rw [← hq1]
              exact this
            have c3 : w2.cell? ⟨g, j * 4 + 3, none⟩ = some (.bool false) := by
              have := hcells _ _ (flat_get S _ j 3 p hg (by omega))
              rw [hb2.cell (p := ⟨g, j * 4 + 3, none⟩) hg2]
              rw [← hq2]
              exact this
            have hji : (j : Int) < (len0 : Int) := by omega
            have hval : code r = if (0 ≤ r ∧ r < 55296) ∨ (57344 ≤ r ∧ r ≤ 1114111) then r.toNat else 65533 := by
              unfold code Utf8.valid
              simp only [Bool.or_eq_true, Bool.and_eq_true, decide_eq_true_eq]
            clear hform hcs hrf hcells hp3 hg hq1 hq2 hr2 hr1 HP2 HS2
            by_cases v1 : r < 0
            · have hc : (code r : Int) = 65533 := by rw [hval, if_neg (by omega)]; rfl
              rw [hc] at c0
              clear hval
              go_wp2
              go_round
              case rel => exact ⟨j + 1, by omega, by go_num⟩
              case measure => simp [intOf]; omega
            by_cases v2 : 1114111 < r
            · have hc : (code r : Int) = 65533 := by rw [hval, if_neg (by omega)]; rfl
              rw [hc] at c0
              clear hval
              go_wp2
              go_round
              case rel => exact ⟨j + 1, by omega, by go_num⟩
              case measure => simp [intOf]; omega
            by_cases v3 : r < 55296
            · have hc : (code r : Int) = r := by rw [hval, if_pos (by omega)]; omega
              rw [hc] at c0
              clear hval
              go_wp2
              go_round
              case rel => exact ⟨j + 1, by omega, by go_num⟩
              case measure => simp [intOf]; omega
            by_cases v4 : r ≤ 57343
            · have hc : (code r : Int) = 65533 := by rw [hval, if_neg (by omega)]; rfl
              rw [hc] at c0
              clear hval
              go_wp2
              go_round
              case rel => exact ⟨j + 1, by omega, by go_num⟩
              case measure => simp [intOf]; omega
            · have hc : (code r : Int) = r := by rw [hval, if_pos (by omega)]; omega
              rw [hc] at c0
              clear hval
              go_wp2
              go_round
              case rel => exact ⟨j + 1, by omega, by go_num⟩
              case measure => simp [intOf]; omega
          · clear hform hrf hp3
            go_wp2_with fail
            refine (alive_any _).mono ?_
            rintro e w3 ⟨rfl, hb3⟩
            go_wp2
            go_ret
            exact ⟨rfl, hbw.trans (hb3.mono hbw.size)⟩

set_option maxRecDepth 100000 in
theorem lifted (os : Os) (started : os.Started) (H : Type) (enc : TypeId × Value → H) :
    ReturnsInHanded {} Try.checked os 7 .any (Rows.glyphRunesSpec.pre6 enc Try.prog Try.f7 Rows.glyphRunesRow.domain false) (Rows.glyphRunesSpec.post enc Try.prog Try.f7 false true false false) := by
  refine returnsInHanded_of_change (C := Try.checked) own started (by kernel_rfl) Try.func7
    (ChangeSpec.witness6 (enc := enc) (C := Try.checked) false ⟨#[], #[.slice none 0 0], []⟩ 8 (by kernel_rfl) (by kernel_rfl) (by kernel_rfl) (by kernel_rfl)) ?_
  intro W base args ds gs before hval0 hW hcnd _
  have hval : ∀ (j : Nat) t v, Try.f7.params[j]? = some t → args[j]? = some v → Value.okWide Try.prog W .any base t v := hval0
  have hW' := hW
  obtain ⟨p, q, hA0, hV, rfl, hfz, hnd⟩ := hW
  have hA : DataW.TrodAll enc Try.prog W 0 (fun _ => true) true Try.f7.params.toList args.toList ds p := hA0
  rw [Try.params7] at hA hval
  obtain ⟨v0, vs0, d0, ds0, p0, q0, hargs, rfl, rfl, h0, r0⟩ := trodAll_cons hA
  obtain ⟨rfl, rfl, rfl⟩ := trodAll_nil r0
  obtain rfl : args = #[v0] := by cases args; simp_all
  obtain ⟨rfl, rfl⟩ := trodVars_none hV
  obtain ⟨a0, len0, cap0, rfl⟩ := okWide_slice Try.underlying37 (hval 0 37 v0 rfl rfl)
  have k0 := h0
  have lt0 : ∀ x ∈ p0, x.block < W.heap.size := by obtain ⟨m, hm⟩ := k0; exact DataW.trod_lt m _ _ _ hm
  obtain ⟨z0, w0⟩ : ∃ zs, IsRow .i32 W a0 len0 cap0 zs := by
    obtain ⟨fuel, hf⟩ := h0
    rcases open_ints Try.underlying37 Try.underlying21 (by kernel_rfl) hf with ⟨hcs, _⟩ | ⟨x, l, c, zs, hcs, _, hl, hm, hz, _, hcell, hwz⟩
    · simp [Value.cells] at hcs
      obtain ⟨rfl, rfl, rfl⟩ := hcs
      exact ⟨[], .inl ⟨rfl, rfl, rfl, rfl⟩⟩
    · simp [Value.cells] at hcs
      obtain ⟨rfl, rfl, rfl⟩ := hcs
      exact ⟨zs, .inr ⟨_, rfl, hl, hm, by simpa using hz, hcell, hwz⟩⟩
  clear hA0 hval0
  refine (walk a0 len0 cap0 z0 W w0).mono fun e W' ⟨he, bel⟩ => ?_
  subst he
  exact ⟨_, rfl, _, _, _, [], _, [], hW', trodAll_mk1 (shut_bool Try.underlying4 _), (trodAll_cons_mk (Below.trod laidOut (by kernel_rfl) (of_decide_eq_true (by kernel_rfl)) k0 bel lt0) trodAll_mk0), rfl, bel.frame _, fun h => by cases h⟩

theorem over : Rows.glyphRunesRow.holds Try.pinned (OpenSpec.ofChange Rows.glyphRunesSpec) :=
  OpenClaim.holds_of_wide 7 Try.f7 rfl rfl rfl rfl rfl rfl rfl ⟨rfl, rfl, rfl, rfl, rfl⟩ rfl rfl rfl rfl rfl (by kernel_rfl) Try.func7 (by kernel_rfl)
    (of_decide_eq_true (by kernel_rfl)) (by unfold Func.isWrapper; first | (rw [if_pos (by decide +kernel)]; kernel_rfl) | (rw [if_neg (by decide +kernel)]; exact ⟨rfl, rfl⟩))
    (fun os started H enc _ => lifted os started H enc)

theorem proved : Rows.GlyphRunesSaid := over
#print axioms proved
end Go.Proofs.Ytgihafldphpncaa
