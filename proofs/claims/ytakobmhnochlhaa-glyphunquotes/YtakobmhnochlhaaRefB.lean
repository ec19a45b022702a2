/- What Mend and Back of the document answer: at every text of at most 2^20 bytes; and how two lists of characters are compared. -/
import Derived.Test.YtakobmhnochlhaaRefM
import Derived.Test.YtakobmhnochlhaaMnd
import Derived.Test.YtakobmhnochlhaaBck
import Derived.Lib.AppendStr
import Derived.Laws.BytesArg
namespace Go.Proofs.Ytakobmhnochlhaa
open Go.RowKit Go.Shelf

theorem conv_own {W : World} {base n : Nat} {v : Value} {l : List UInt8} (h : W.ownsRow base 5 1 v n (Lib.byteCells l)) (hl : l.length = n) :
    (convert 27 9 v).run Try.prog W = .ok (.string ⟨l.toArray⟩) W := by
  obtain ⟨ad, cap, rfl, hc⟩ := ownsRow_form h
  by_cases h0 : 0 < n
  · obtain ⟨g, rfl, _, _, _, hcell⟩ := hc h0
    have := run_convert_bytes_back (P := Try.prog) W 27 9 5 ⟨g, 0, none⟩ cap l Try.underlying27 Try.underlying5 Try.underlying9 (fun j hj => by
      have ha : (⟨g, 0, none⟩ : Addr).add j = ⟨g, j, none⟩ := by unfold Addr.add; split <;> simp_all
      rw [ha]
      exact hcell j _ (by simp [Lib.byteCells, hj]))
    rw [hl] at this
    exact this
  · have hl0 : l = [] := List.length_eq_zero_iff.1 (by omega)
    obtain rfl : n = 0 := by omega
    subst hl0
    cases ad with
    | none => exact run_convert_bytes_nil (P := Try.prog) W 27 5 Try.underlying27 Try.underlying5 0 cap 9 Try.underlying9
    | some a => exact run_convert_bytes_back (P := Try.prog) W 27 9 5 a cap [] Try.underlying27 Try.underlying5 Try.underlying9 (fun j hj => by simp at hj)

theorem ext_chB (s : ByteArray) (p : Nat) : (s.extract p (p + wd s p)).data.toList = chB s p := by
  rw [ByteArray.data_extract, Array.toList_extract]
  unfold chB
  simp [List.extract]
theorem three_new (W : World) (a b c : Value) (t : TypeId) : ∀ j u, [a, b, c][j]? = some u → (W.alloc (.cells #[a, b, c] t)).cell? ((⟨W.heap.size, 0, none⟩ : Addr).add j) = some u := by
  intro j u h
  have hg : (W.alloc (.cells #[a, b, c] t)).heap[W.heap.size]? = some (.cells #[a, b, c] t) := get_new rfl
  have ha : (⟨W.heap.size, 0, none⟩ : Addr).add j = ⟨W.heap.size, j, none⟩ := by unfold Addr.add; split <;> simp_all
  rw [ha, cell_of hg j, ← h]
  simp

theorem enl_snoc (s : ByteArray) (pre : List Nat) (p : Nat) : enl (runes s (pre ++ [p])) = enl (runes s pre) ++ (Utf8.encode (rn s p : Int)).data.toList := by
  unfold runes
  rw [List.map_append, enl_append, List.map_cons, List.map_nil]
  unfold enl
  rw [wr, wr, List.append_nil]
theorem enc_fffd : (Utf8.encode 65533).data.toList = [239, 191, 189] := by decide +kernel

theorem step_append_string_in {F : Fence} {n : Nat} {P : Program} {ops : Array Oper} {o : Oper} {a : Act} {w : World} {K : Act → World → Prop} {Q : Exit → Act → World → Prop} {E : Prop} (hro : F.round = none) (hg : o.guard = none)
    (sl x : Operand) (t u : TypeId) (ho : o.op = .call { callee := .builtin .append, args := #[sl, x], argTypes := #[t, u] }) (v : Value) (s : ByteArray) (hs : a.eval sl = v) (hx : a.eval x = .string s)
    (v' : Value) (w' : World) (hr : (Builtin.append_ #[t, u] o.type #[v, .string s]).run P w = .ok v' w') (hK : K (a.put o.dst v') w') : if Region.wanted o (yielded ops a.tmps) = true then Oper.wpIn F n P o a w K Q else E := by
  rw [if_pos (by simp [Region.wanted, hg])]
  unfold Oper.wpIn
  rw [hro, Oper.semAt_none]
  refine ⟨fun f hf => ?_, ?_⟩
  · simp [Oper.about, ho, resolve, Target.leads] at hf
  · unfold execOp
    simp only [ho, resolve, invoke, builtin, Sem.run_bind, Sem.run_pure, Result.andThen_ok, List.map_toArray, List.map_cons, List.map_nil, hs, hx, hr]
    exact hK
theorem backL_le (s : ByteArray) : ∀ l : List Nat, (backL s l).length ≤ 4 * l.length
  | [] => Nat.le_refl _
  | p :: r => by
    have h1 := backL_le s r
    have h2 : (chB s p).length ≤ wd s p := List.length_take_le _ _
    have h3 := wd_le4 s p
    rw [backL, List.length_append, List.length_cons]
    omega

end Go.Proofs.Ytakobmhnochlhaa
