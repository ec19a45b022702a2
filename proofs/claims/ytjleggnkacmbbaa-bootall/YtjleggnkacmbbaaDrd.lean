/- The document's Of: what it answers. -/
import Derived.Test.YtjleggnkacmbbaaDrc
namespace Go.Proofs.Ytjleggnkacmbbaa
open Go.RowKit Go.Shelf

theorem retRt {f : Func} {p q : Tmp} {R : Ending → World → Prop} {a : Act} {w : World} {b : Nat} {v : Value} {o : Bool} {fu n : Int} {x : Value} (hres : f.results = #[.cell p 64, .tmp q]) (hp : a.tmps.getD p undef = .pointer (some ⟨b, 0, none⟩)) (hq : a.tmps.getD q undef = x) (hd : a.defers = []) (h : RB w b v o fu n) (hR : R (.returned (.tuple #[.agg #[v, .bool o, .int .i64 fu, .int .i64 n], x])) w) : bodyPost Try.prog f R .ret a w := by
  refine bodyPost_ret (v := .tuple #[.agg #[v, .bool o, .int .i64 fu, .int .i64 n], x]) ?_ hd hR
  have h2 := run_loadVar_row (P := Try.prog) w b 64 64 #[v, .bool o, .int .i64 fu, .int .i64 n] (0, 0) _ h und_rd rfl info_rd
  have hp' : a.tmps[p]?.getD undef = .pointer (some ⟨b, 0, none⟩) := by simpa using hp
  have hq' : a.tmps[q]?.getD undef = x := by simpa using hq
  simp [results, hres, hp', hq', asAddr, h2]
theorem row_lt0 {W : World} {base g n c : Nat} {e : TypeId} {xs : List Value} (h : W.ownsRow base e 1 (.slice (some ⟨g, 0, none⟩) n c) n xs) : g < W.heap.size := by
  rcases h.2 with ⟨e1, _⟩ | ⟨g1, c1, cur, e1, _, h3, _⟩
  · cases e1
  · cases e1
    exact lt_at h3
theorem own_cur {W : World} {base g n c : Nat} {e : TypeId} {xs : List Value} (h : W.ownsRow base e 1 (.slice (some ⟨g, 0, none⟩) n c) n xs) : ∃ cur : Array Value, W.heap[g]? = some (.cells cur e (0, 0)) ∧ n ≤ c ∧ c ≤ maxLen ∧ cur.size = c ∧ base ≤ g := by
  rcases h.2 with ⟨e1, _⟩ | ⟨g1, c1, cur, e1, h2, h3, h4, h5, h6, _⟩
  · cases e1
  · cases e1
    exact ⟨cur, h3, h4, h5, by omega, h2⟩
theorem own_put {W : World} {base r : Nat} {cur : Array Value} {I : List Nat} (h : W.heap[r]? = some (.cells cur 5 (0, 0))) (hc : cur.size = 256) (hI : I.length = 256) (hb : base ≤ r) : (W.setRow r (cur.toList.take 0 ++ (cB I ++ cur.toList.drop (0 + (cB I).length))).toArray).ownsRow base 5 1 (.slice (some ⟨r, 0, none⟩) 256 256) 256 (cB I) := by
  have e : (cB I).length = 256 := by rw [cB_len, hI]
  refine ⟨by rw [e], .inr ⟨r, 256, _, rfl, hb, setRow_heap _ _ _ _ _ _ h, Nat.le_refl _, by unfold maxLen; omega, ?_, ?_⟩⟩
  · simp [e, hc]
  · simp only [List.take_zero, List.nil_append]
    rw [List.take_append_of_le_length (by omega), List.take_of_length_le (by omega)]
end Go.Proofs.Ytjleggnkacmbbaa
