/- bag's All as an iterator: at every bag. -/
import Derived.Test.YtjfbnikbmadgkaaGreatBgh
import Derived.Test.YtjfbnikbmadgkaaGreatSqr
import Derived.Test.YtjfbnikbmadgkaaGreatRgy
namespace Go.Proofs.YtjfbnikbmadgkaaGreat
open Go.RowKit Go.Shelf Go.Lib
attribute [local go_sem] Oper.semAt_some

theorem wfn (k : Nat) : Fence.wide.fn k := trivial
theorem wdep : Fence.wide.depth = none := rfl
theorem ownFrom_le {β : Type} {B B' : Nat} {I : β → World → Prop} (h : OwnFrom B I) (hle : B ≤ B') : OwnFrom B' I := fun s W W' row hs hg hr => h s W W' row hs hg (fun r e => ⟨Nat.le_trans hle (hr r e).1, (hr r e).2⟩)
/-- The clone that is gone through, and the datagrams. -/
structure CL (base : Nat) (a : Option Addr) (c : Nat) (ps : List Nat) (l : List Gr) (W : World) : Prop where
  row : W.ownsRow base 104 1 (.slice a ps.length c) ps.length (cP ps)
  len : ps.length = l.length
  gr : ∀ (k q : Nat) (x : Gr), ps[k]? = some q → l[k]? = some x → GmAt (fun _ => False) W q x
theorem CL.carry {base : Nat} {a : Option Addr} {c : Nat} {ps : List Nat} {l : List Gr} {W W' : World} (h : CL base a c ps l W) (hb : Below W.heap.size W W') : CL base a c ps l W' :=
  ⟨row_below h.row hb, h.len, fun k q x h1 h2 => (h.gr k q x h1 h2).carry hb⟩
set_option maxHeartbeats 1000000 in
set_option maxRecDepth 100000 in
theorem sall1_seq (base : Nat) (a : Option Addr) (c : Nat) (ps : List Nat) (bx : Nat) (w : World) (hn : ps.length ≤ 65536) (hb : w.heap[bx]? = some (.cells #[.slice a ps.length c] 52 (0, 0))) :
    SeqR Tryz.prog (fun W => W.ownsRow base 104 1 (.slice a ps.length c) ps.length (cP ps)) 120 #[.pointer (some ⟨bx, 0, none⟩)] (fun pre q vs _ _ => vs = #[.int .i64 (pre.length : Int), .pointer (some ⟨q, 0, none⟩)]) bx 0 ps w := by
  intro ll J Jx W hW hJ hJx hE hY h0
  have hb0 : W.heap[bx]? = some (.cells #[.slice a ps.length c] 52 (0, 0)) := (hW.block _ (lt_at hb)).trans hb
  have c0 := cell_at hb0 0
  simp at c0
  obtain ⟨n, hN⟩ : ∃ n, ps.length = n := ⟨_, rfl⟩
  have HN : Hid (ps.length = n) := hN
  rw [hN] at c0 hn
  have hE' : ∀ pre W1, J pre W1 → W1.ownsRow base 104 1 (.slice a n c) n (cP ps) := fun pre W1 h => by have := hE pre W1 h; rw [hN] at this; exact this
  clear hN hE hb hb0
  refine callsIn_of_wp Tryz.func120 rfl trivial ?_ rfl
  simp only [Tryz.ntmps120, List.size_toArray, List.length_cons, List.length_nil, Nat.reduceAdd, Nat.reduceSub, Array.replicate_succ, Array.replicate_zero, List.push_toArray, List.append_toArray, List.nil_append, List.cons_append]
  gi_wp2
  gi_loopw [7] (fun i wz => ∃ k : Nat, i = .int .i64 k ∧ k ≤ n ∧ J (ps.take k) wz ∧ W.heap.size ≤ wz.heap.size) (fun i _ => n - vnat i)
  case atStart => exact ⟨0, rfl, Nat.zero_le _, h0, Nat.le_refl _⟩
  case round =>
    obtain ⟨k, rfl, hk, hj, hsz⟩ := hrel
    by_cases hkl : k < n
    · have hki : (k : Int) < (n : Int) := by omega
      obtain ⟨q, hq⟩ : ∃ q, ps[k]? = some q := ⟨_, List.getElem?_eq_getElem (by rw [HN.out]; exact hkl)⟩
      have hrow := hE' _ _ hj
      obtain ⟨g, c', e, _⟩ := own_some hrow (by omega)
      simp only [Value.slice.injEq] at e
      obtain ⟨rfl, _, rfl⟩ := e
      have cq := (hrow.cellAt k (by omega)).trans (cP_get hq)
      unfold pt at cq
      have hix := idx_p g n c k hkl
      have HT : Hid (ps.take (k + 1) = ps.take k ++ [q]) := by
        show _ = _
        rw [List.take_add_one, hq]
        rfl
      have hlk : (ps.take k).length = k := by rw [List.length_take, HN.out]; omega
      have hyl := hY _ q #[.int .i64 (k : Int), .pointer (some ⟨q, 0, none⟩)] _ _ hj (Below.refl _ _) hj (by omega) (by rw [← HT.out]; exact List.take_prefix _ _) (by rw [hlk])
      obtain ⟨fn, tmps, assign, body, hy, hR⟩ := hyl
      clear hY hq hlk
      gi_wp2
      refine ⟨rfl, hR.mono ?_⟩
      rintro e' W3 ⟨hkp, (⟨rfl, hj3⟩ | ⟨rfl, hjx⟩)⟩
      · have hsz3 := hkp.size
        gi_wp2
        go_roundw
        case rel => exact ⟨k + 1, by simp, by omega, by rw [HT.out]; exact hj3, by omega⟩
        case measure => simp [vnat]; omega
      · gi_wp2
        refine bodyPost_ret (results_none rfl _ _ _) rfl ?_
        exact ⟨⟨_, rfl⟩, .inr ⟨_, by rw [← HT.out]; exact List.take_prefix _ _, hjx⟩⟩
    · have hkk : k = n := by omega
      subst hkk
      rw [List.take_of_length_le (by rw [HN.out]; exact Nat.le_refl _)] at hj
      gi_wp2
      go_end0
      exact ⟨⟨_, rfl⟩, .inl hj⟩
end Go.Proofs.YtjfbnikbmadgkaaGreat
