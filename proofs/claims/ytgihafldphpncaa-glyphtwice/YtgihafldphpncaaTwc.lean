/- The plain mathematics of a text turned: of a plain text, turned twice it is the text. -/
import Derived.Test.YtgihafldphpncaaMnd
import Derived.Test.YtgihafldphpncaaBck
namespace Go.Proofs.Ytgihafldphpncaa
open Go.RowKit Go.Shelf

theorem back_wr (s : ByteArray) : ∀ l : List Nat, (∀ p ∈ l, p < s.size ∧ looseB s p = false) → backL s l = wr ((runes s l).reverse)
  | [], _ => rfl
  | p :: r, h => by
    have h1 := back_wr s r (fun q hq => h q (List.mem_cons_of_mem _ hq))
    have h2 := h p List.mem_cons_self
    have h3 : chB s p = (Utf8.encode (rn s p : Int)).data.toList := (char_bytes s p h2.1 h2.2).symm
    have h4 : (runes s (p :: r)).reverse = (runes s r).reverse ++ [(rn s p : Int)] := by unfold runes; rw [List.map_cons, List.reverse_cons]
    have h5 : ∀ x : Int, wr [x] = (Utf8.encode x).data.toList := fun x => by rw [wr, wr, List.append_nil]
    rw [h4, wr_append, h5, backL, h1, h3]
theorem plain_all (s : ByteArray) (h : plainB s = true) : ∀ p ∈ starts s, p < s.size ∧ looseB s p = false := fun p hp => by
  refine ⟨starts_lt s p hp, ?_⟩
  unfold plainB at h
  rw [List.all_eq_true] at h
  have := h p hp
  simpa using this
theorem back_data (s : ByteArray) (h : plainB s = true) : (backB s).data.toList = wr ((runes s (starts s)).reverse) := by
  rw [← back_wr s _ (plain_all s h)]; unfold backB; simp
theorem runes_of_wr (t : ByteArray) (l : List Int) (hd : t.data.toList = wr l) (hv : ∀ r ∈ l, (code r : Int) = r) : runes t (starts t) = l := by
  obtain ⟨h1, _, h3⟩ := plain_wr t l hd
  apply List.ext_getElem?
  intro k
  by_cases hk : k < l.length
  · have hg : l[k]? = some l[k] := List.getElem?_eq_getElem hk
    obtain ⟨p, h4, h5, _⟩ := h3 k _ hg
    have h6 := hv _ (List.getElem_mem hk)
    rw [hg]
    unfold runes
    rw [List.getElem?_map, h4, Option.map_some, h5, h6]
  · rw [List.getElem?_eq_none (by simp [runes]; omega), List.getElem?_eq_none (by omega)]
theorem runes_ok (s : ByteArray) (l : List Nat) : ∀ r ∈ runes s l, (code r : Int) = r := by
  intro r hr
  unfold runes at hr
  obtain ⟨p, _, rfl⟩ := List.mem_map.1 hr
  rw [code_rn]
theorem runes_back (s : ByteArray) (h : plainB s = true) : runes (backB s) (starts (backB s)) = (runes s (starts s)).reverse :=
  runes_of_wr _ _ (back_data s h) (fun r hr => runes_ok s _ r (List.mem_reverse.1 hr))
theorem back_plain (s : ByteArray) (h : plainB s = true) : plainB (backB s) = true := (plain_wr _ _ (back_data s h)).2.1
theorem plain_data (s : ByteArray) (h : plainB s = true) : s.data.toList = wr (runes s (starts s)) := by
  have := plain_bytes s s.size 0 (by omega) (by omega) (fun q hq => (plain_all s h q hq).2)
  rw [List.drop_zero] at this
  exact this.symm
theorem back_twice (s : ByteArray) (h : plainB s = true) : backB (backB s) = s := by
  apply ByteArray.ext
  apply Array.toList_inj.1
  rw [back_data _ (back_plain s h), runes_back s h, List.reverse_reverse, ← plain_data s h]
theorem back_count (s : ByteArray) (h : plainB s = true) : (starts (backB s)).length = (starts s).length := by
  rw [(plain_wr _ _ (back_data s h)).1]; simp [runes]
theorem wr_rev : ∀ l : List Int, (wr l.reverse).length = (wr l).length
  | [] => rfl
  | r :: l => by rw [List.reverse_cons, wr_append, List.length_append, wr_rev l, wr, wr, List.append_nil, wr, List.length_append, Nat.add_comm]
theorem back_size (s : ByteArray) (h : plainB s = true) : (backB s).size = s.size := by
  have h1 : (backB s).data.toList.length = (backB s).size := by simp
  have h2 : s.data.toList.length = s.size := by simp
  rw [back_data s h, wr_rev, ← plain_data s h] at h1
  omega
theorem wd_enc (s : ByteArray) (p : Nat) (hp : p < s.size) (h : looseB s p = false) : wd s p = (Utf8.encode (rn s p : Int)).data.toList.length := by
  rw [char_bytes s p hp h]; exact (chB_len s p hp).symm

/-- The last character of a plain text, and the first of the text turned. -/
theorem nth_pair (s : ByteArray) (h : plainB s = true) : ∃ (r x z : Int) (l : Bool) (e x' : Int) (l' : Bool),
    nthV s (((starts s).length : Int) - 1) = .tuple #[.agg #[.int .i32 r, .int .i64 x, .int .i64 z, .bool l], .int .i64 e] ∧ nthV (backB s) 0 = .tuple #[.agg #[.int .i32 r, .int .i64 x', .int .i64 z, .bool l'], .int .i64 e] := by
  have hc := back_count s h
  by_cases h0 : (starts s).length = 0
  · refine ⟨0, 0, 0, false, 3, 0, false, ?_, ?_⟩
    · rw [nthV, nthO_miss (by omega)]; rfl
    · rw [nthV, nthO_miss (by omega)]; rfl
  · have hk : (starts s).length - 1 < (starts s).length := by omega
    have hk' : 0 < (starts (backB s)).length := by omega
    have e1 : nthO s (((starts s).length : Int) - 1) = some (starts s)[(starts s).length - 1] := by
      unfold nthO
      rw [if_neg (by omega), show (((starts s).length : Int) - 1).toNat = (starts s).length - 1 by omega, List.getElem?_eq_getElem hk]
    have e2 : nthO (backB s) 0 = some (starts (backB s))[0] := by
      unfold nthO
      rw [if_neg (by omega), show ((0 : Int)).toNat = 0 from rfl, List.getElem?_eq_getElem hk']
    have p1 := plain_all s h _ (List.getElem_mem hk)
    have p2 := plain_all _ (back_plain s h) _ (List.getElem_mem hk')
    have hr := runes_back s h
    have hr0 := congrArg (fun l => l[0]?) hr
    have hrn : rn (backB s) (starts (backB s))[0] = rn s (starts s)[(starts s).length - 1] := by
      simp only [runes, List.getElem?_map, List.getElem?_eq_getElem hk', Option.map_some] at hr0
      rw [List.getElem?_reverse (by simp; omega), List.getElem?_map] at hr0
      simp only [List.length_map, Nat.sub_zero, List.getElem?_eq_getElem hk, Option.map_some, Option.some.injEq] at hr0
      omega
    have hw : wd (backB s) (starts (backB s))[0] = wd s (starts s)[(starts s).length - 1] := by
      rw [wd_enc _ _ p2.1 p2.2, wd_enc _ _ p1.1 p1.2, hrn]
    generalize (starts s)[(starts s).length - 1] = p at *
    generalize (starts (backB s))[0] = q at *
    refine ⟨(rn s p : Int), p, (wd s p : Int), looseB s p, 0, q, looseB (backB s) q, ?_, ?_⟩
    · rw [nthV, e1]; rfl
    · rw [nthV, e2, ← hrn, ← hw]; rfl
end Go.Proofs.Ytgihafldphpncaa
