/- LentNotices: what it answers. -/
import Derived.Test.YtebpngapkkdifabRnv
import Derived.Maps.AppendAt
import Derived.OwnWalk
import Derived.Laws.OwnMore
namespace Go.Proofs.Ytebpngapkkdifab
open Go.RowKit Go.Shelf

/-- The cells of notices. -/
def fl (l : List (Int × Int × Int)) : List Value := l.flatMap fun x => [.int .i64 x.1, .int .i64 x.2.1, .int .i64 x.2.2]
theorem fl_nil : fl [] = [] := rfl
theorem fl_cons (x : Int × Int × Int) (l : List (Int × Int × Int)) : fl (x :: l) = .int .i64 x.1 :: .int .i64 x.2.1 :: .int .i64 x.2.2 :: fl l := rfl
theorem fl_append (a b : List (Int × Int × Int)) : fl (a ++ b) = fl a ++ fl b := by simp [fl]
theorem fl_len : ∀ l : List (Int × Int × Int), (fl l).length = l.length * 3
  | [] => rfl
  | x :: l => by rw [fl_cons]; simp only [List.length_cons, fl_len l]; omega
theorem fl_get : ∀ (l : List (Int × Int × Int)) (k : Nat) (x : Int × Int × Int), l[k]? = some x → (fl l)[k * 3]? = some (.int .i64 x.1) ∧ (fl l)[k * 3 + 1]? = some (.int .i64 x.2.1) ∧ (fl l)[k * 3 + 2]? = some (.int .i64 x.2.2)
  | [], k, x, h => by simp at h
  | y :: l, 0, x, h => by
    simp at h
    subst h
    exact ⟨rfl, rfl, rfl⟩
  | y :: l, k + 1, x, h => by
    have ih := fl_get l k x (by simpa using h)
    rw [fl_cons, show (k + 1) * 3 = k * 3 + 3 by omega]
    exact ih
theorem fl_inv : ∀ (l : List (Int × Int × Int)) (j : Nat) (u : Value), (fl l)[j]? = some u → ∃ k x, l[k]? = some x ∧ ((j = k * 3 ∧ u = .int .i64 x.1) ∨ (j = k * 3 + 1 ∧ u = .int .i64 x.2.1) ∨ (j = k * 3 + 2 ∧ u = .int .i64 x.2.2))
  | [], j, u, h => by simp [fl_nil] at h
  | y :: l, 0, u, h => ⟨0, y, rfl, .inl ⟨rfl, (Option.some.inj h).symm⟩⟩
  | y :: l, 1, u, h => ⟨0, y, rfl, .inr (.inl ⟨rfl, (Option.some.inj h).symm⟩)⟩
  | y :: l, 2, u, h => ⟨0, y, rfl, .inr (.inr ⟨rfl, (Option.some.inj h).symm⟩)⟩
  | y :: l, j + 3, u, h => by
    obtain ⟨k, x, h1, h2⟩ := fl_inv l j u h
    refine ⟨k + 1, x, by simpa using h1, ?_⟩
    rcases h2 with ⟨e, f⟩ | ⟨e, f⟩ | ⟨e, f⟩
    · exact .inl ⟨by omega, f⟩
    · exact .inr (.inl ⟨by omega, f⟩)
    · exact .inr (.inr ⟨by omega, f⟩)
theorem fl_one (l : List (Int × Int × Int)) : ∀ u ∈ fl l, u.oneCell' = true := by
  intro u hu
  obtain ⟨j, hj⟩ := List.mem_iff_getElem?.1 hu
  obtain ⟨k, x, _, h⟩ := fl_inv l j u hj
  rcases h with ⟨_, rfl⟩ | ⟨_, rfl⟩ | ⟨_, rfl⟩ <;> rfl
theorem add_pl (b off j : Nat) : (⟨b, off, none⟩ : Addr).add j = ⟨b, off + j, none⟩ := by unfold Addr.add; split <;> simp_all
theorem nts_src {W : World} {b off : Nat} {l : List (Int × Int × Int)} (h : NtsAt W b off l) : ∀ j u, (fl l)[j]? = some u → W.cell? ((⟨b, off, none⟩ : Addr).add j) = some u := by
  intro j u hj
  rw [add_pl]
  obtain ⟨k, x, hx, e⟩ := fl_inv l j u hj
  obtain ⟨c0, c1, c2⟩ := h k x hx
  rcases e with ⟨rfl, rfl⟩ | ⟨rfl, rfl⟩ | ⟨rfl, rfl⟩
  · exact c0
  · exact c1
  · exact c2
theorem nts_own {W : World} {base g n cap : Nat} {l : List (Int × Int × Int)} (h : W.ownsRow base 28 3 (.slice (some ⟨g, 0, none⟩) n cap) n (fl l)) (hn : n = l.length) : NtsAt W g 0 l := by
  intro k x hk
  have hlt : k < l.length := (List.getElem?_eq_some_iff.1 hk).1
  obtain ⟨c0, c1, c2⟩ := fl_get l k x hk
  rw [Nat.zero_add]
  exact ⟨(h.cellAt _ (by omega)).trans c0, (h.cellAt _ (by omega)).trans c1, (h.cellAt _ (by omega)).trans c2⟩
theorem infoN : (Try.prog.info? 28).map (fun i => (i.zero, i.size, i.bytes)) = some (some (.agg #[.int .i64 0, .int .i64 0, .int .i64 0]), 3, 24) := by kernel_rfl
theorem info_partsN : ∃ i, Try.prog.info? 28 = some i ∧ i.zero = some (.agg #[.int .i64 0, .int .i64 0, .int .i64 0]) ∧ i.size = 3 ∧ i.bytes = 24 := by
  have h := infoN
  cases hi : Try.prog.info? 28 with
  | none => rw [hi] at h; cases h
  | some i =>
    rw [hi] at h
    simp only [Option.map_some, Option.some.injEq, Prod.mk.injEq] at h
    exact ⟨i, rfl, h.1, h.2.1, h.2.2⟩
theorem own_form {w : World} {base : Nat} {e : TypeId} {size : Nat} {v : Value} {n : Nat} {xs : List Value} (h : w.ownsRow base e size v n xs) : (v = .slice none 0 0 ∧ n = 0) ∨ ∃ g cap, v = .slice (some ⟨g, 0, none⟩) n cap ∧ base ≤ g ∧ g < w.heap.size ∧ n ≤ cap := by
  rcases h.2 with ⟨rfl, rfl⟩ | ⟨g, cap, cur, rfl, h4, h5, h6, _⟩
  · exact .inl ⟨rfl, rfl⟩
  · exact .inr ⟨g, cap, rfl, h4, lt_at h5, h6⟩
theorem own_block {w : World} {base : Nat} {e : TypeId} {size : Nat} {v : Value} {n : Nat} {xs : List Value} (h : w.ownsRow base e size v n xs) : ∀ g, v.ownBlock = some g → base ≤ g := by
  intro g hg
  rcases h.2 with ⟨rfl, _⟩ | ⟨g', cap, cur, rfl, h4, h5, _⟩
  · simp [Value.ownBlock] at hg
  · simp [Value.ownBlock] at hg
    omega
/-- What LentNotices answers. -/
def LentV (w : World) (l : List (Int × Int × Int)) (e : Ending) (w' : World) : Prop := ∃ g cap, e = .returned (.slice (some ⟨g, 0, none⟩) l.length cap) ∧ l.length + 3 ≤ cap ∧ g < w'.heap.size ∧ NtsAt w' g 0 (l ++ mks) ∧ Below w.heap.size w w'
theorem rowN (W : World) (cs : Array Value) (t : TypeId) : ∀ j u, cs.toList[j]? = some u → (W.alloc (.cells cs t)).cell? ((⟨W.heap.size, 0, none⟩ : Addr).add j) = some u := by
  intro j u h
  have hg : (W.alloc (.cells cs t)).heap[W.heap.size]? = some (.cells cs t) := new_at rfl
  rw [add_pl, Nat.zero_add, cell_at hg j, ← h]
  simp
theorem mks_step (k : Nat) (hk : k < 3) : mks.take (k + 1) = mks.take k ++ [(-7, (k : Int), 0)] := by
  match k, hk with
  | 0, _ => rfl
  | 1, _ => rfl
  | 2, _ => rfl
set_option maxHeartbeats 4000000 in
set_option maxRecDepth 100000 in
theorem lent_any (ad : Option Addr) (cap : Nat) (l : List (Int × Int × Int)) (w : World) (h : RdN w ad l) (hcap : ad = none → cap = 0) (hl : l.length * 24 ≤ 140737488351232) : Calls Try.prog 4 #[.slice ad l.length cap] w fun e w' => LentV w l e w' := by
  obtain ⟨ic, hic, hz0, hz1, hz2⟩ := info_partsN
  have hnil := World.ownsRow_nil w w.heap.size 28 3
  cases ad with
  | none =>
    have hl0 : l = [] := by
      cases l with
      | nil => rfl
      | cons x r => obtain ⟨b, off, e, _⟩ := h (by simp); cases e
    subst hl0
    obtain rfl := hcap rfl
    have hap := run_append_owned_none (P := Try.prog) w w.heap.size 22 22 28 ic 3 Try.underlying22 hic _ _ _ hnil
    go_enter Try.func4, Try.ntmps4
    have hbu := Below.refl w.heap.size w
    have ho := hnil
    go_wp2
    go_loopw [3, 4] (fun b i wz => ∃ (k : Nat), i = .int .i64 k ∧ k ≤ 3 ∧ wz.ownsRow w.heap.size 28 3 b (([] : List (Int × Int × Int)).length + k) (fl (([] : List (Int × Int × Int)) ++ mks.take k)) ∧ Below w.heap.size w wz) (fun _ i _ => 3 - vnatR i)
    case atStart => exact ⟨0, rfl, Nat.zero_le _, by simpa [fl_append, fl_nil] using ho, hbu⟩
    case round =>
      obtain ⟨k, rfl, hk, hrow, hbw⟩ := hrel
      have hsw := hbw.size
      by_cases hkl : k < 3
      · have hki : (k : Int) < 3 := by omega
        have hst := mks_step k hkl
        have hfl : fl (([] : List (Int × Int × Int)) ++ mks.take (k + 1)) = fl (([] : List (Int × Int × Int)) ++ mks.take k) ++ [.int .i64 (-7), .int .i64 (k : Int), .int .i64 0] := by
          rw [hst, ← List.append_assoc, fl_append (([] : List (Int × Int × Int)) ++ mks.take k)]
          rfl
        have HF : Hid (fl (([] : List (Int × Int × Int)) ++ mks.take (k + 1)) = fl (([] : List (Int × Int × Int)) ++ mks.take k) ++ [.int .i64 (-7), .int .i64 (k : Int), .int .i64 0]) := hfl
        clear hst hfl
        go_wp2_with (at_builtin; refine wpList_append_own _ rfl _ _ 22 rfl w.heap.size 28 ic _ 3 24 Try.underlying22 hic hz0 hz1 hz2 rfl (by decide) _ (([] : List (Int × Int × Int)).length + k) (fl (([] : List (Int × Int × Int)) ++ mks.take k)) rfl (hrow.alloc _) ⟨wr.heap.size, 0, none⟩ 1 1 [_, _, _] rfl rfl (rowN _ #[_, _, _] _) (by simp [Value.oneCell']) (by unfold maxLen; omega) (by omega) (Nat.le_trans hsw (by simp)) ?_; intro v' w2 hown' hgrow _)
        go_roundw
        case rel =>
          refine ⟨k + 1, by simp, by omega, ?_, (hbw.alloc hsw _).grown hgrow (Nat.le_trans hsw (by simp)) (fun q e => own_block hrow q e)⟩
          rw [HF.out, ← Nat.add_assoc]
          exact hown'
        case measure => simp [vnatR]; omega
      · have hkk : k = 3 := by omega
        subst hkk
        rcases own_form hrow with ⟨_, e⟩ | ⟨g, cp, rfl, hg0, hg1, hcp⟩
        · omega
        have hnt := nts_own hrow (by simp [mks])
        have hcpi : ((([] : List (Int × Int × Int)).length + 3 : Nat) : Int) ≤ (cp : Int) := by omega
        have hl0 : (([] : List (Int × Int × Int)).length : Int) ≤ ((([] : List (Int × Int × Int)).length + 3 : Nat) : Int) := by omega
        have hlc : (([] : List (Int × Int × Int)).length : Int) ≤ (cp : Int) := by omega
        have HQ : Hid (NtsAt wr g 0 (([] : List (Int × Int × Int)) ++ mks)) := hnt
        clear hnt
        go_wp2
        go_ret
        exact ⟨g, cp, rfl, by omega, hg1, HQ.out, hbw⟩
  | some a =>
    have hnews : ∀ j u, (fl l)[j]? = some u → w.cell? (a.add j) = some u := by
      intro j u hj
      obtain ⟨b, off, e, _, hat⟩ := h (fun e => by subst e; simp [fl_nil] at hj)
      obtain rfl := Option.some.inj e
      exact nts_src hat j u hj
    have hfl : (fl l).length = l.length * 3 := fl_len l
    clear h hcap
    go_enter Try.func4, Try.ntmps4
    go_wp2_with (at_builtin; refine wpList_append_own _ rfl _ _ 22 rfl w.heap.size 28 ic _ 3 24 Try.underlying22 hic hz0 hz1 hz2 rfl (by decide) _ 0 [] rfl hnil a l.length cap (fl l) rfl hfl hnews (fl_one l) (by unfold maxLen; omega) (by omega) (Nat.le_refl _) ?_; intro v u ho0 hgu _)
    have hbu : Below w.heap.size w u := (Below.refl w.heap.size w).grown hgu (Nat.le_refl _) (fun q e => own_block hnil q e)
    have ho : u.ownsRow w.heap.size 28 3 v l.length (fl l) := by simpa using ho0
    clear ho0 hgu hnews
    go_loopw [3, 4] (fun b i wz => ∃ (k : Nat), i = .int .i64 k ∧ k ≤ 3 ∧ wz.ownsRow w.heap.size 28 3 b (l.length + k) (fl (l ++ mks.take k)) ∧ Below w.heap.size w wz) (fun _ i _ => 3 - vnatR i)
    case atStart => exact ⟨0, rfl, Nat.zero_le _, by simpa [fl_append, fl_nil] using ho, hbu⟩
    case round =>
      obtain ⟨k, rfl, hk, hrow, hbw⟩ := hrel
      have hsw := hbw.size
      by_cases hkl : k < 3
      · have hki : (k : Int) < 3 := by omega
        have hst := mks_step k hkl
        have hfl : fl (l ++ mks.take (k + 1)) = fl (l ++ mks.take k) ++ [.int .i64 (-7), .int .i64 (k : Int), .int .i64 0] := by
          rw [hst, ← List.append_assoc, fl_append (l ++ mks.take k)]
          rfl
        have HF : Hid (fl (l ++ mks.take (k + 1)) = fl (l ++ mks.take k) ++ [.int .i64 (-7), .int .i64 (k : Int), .int .i64 0]) := hfl
        clear hst hfl
        go_wp2_with (at_builtin; refine wpList_append_own _ rfl _ _ 22 rfl w.heap.size 28 ic _ 3 24 Try.underlying22 hic hz0 hz1 hz2 rfl (by decide) _ (l.length + k) (fl (l ++ mks.take k)) rfl (hrow.alloc _) ⟨wr.heap.size, 0, none⟩ 1 1 [_, _, _] rfl rfl (rowN _ #[_, _, _] _) (by simp [Value.oneCell']) (by unfold maxLen; omega) (by omega) (Nat.le_trans hsw (by simp)) ?_; intro v' w2 hown' hgrow _)
        go_roundw
        case rel =>
          refine ⟨k + 1, by simp, by omega, ?_, (hbw.alloc hsw _).grown hgrow (Nat.le_trans hsw (by simp)) (fun q e => own_block hrow q e)⟩
          rw [HF.out, ← Nat.add_assoc]
          exact hown'
        case measure => simp [vnatR]; omega
      · have hkk : k = 3 := by omega
        subst hkk
        rcases own_form hrow with ⟨_, e⟩ | ⟨g, cp, rfl, hg0, hg1, hcp⟩
        · omega
        have hnt := nts_own hrow (by simp [mks])
        have hcpi : ((l.length + 3 : Nat) : Int) ≤ (cp : Int) := by omega
        have hl0 : (l.length : Int) ≤ ((l.length + 3 : Nat) : Int) := by omega
        have hlc : (l.length : Int) ≤ (cp : Int) := by omega
        have HQ : Hid (NtsAt wr g 0 (l ++ mks)) := hnt
        clear hnt
        go_wp2
        go_ret
        exact ⟨g, cp, rfl, by omega, hg1, HQ.out, hbw⟩
end Go.Proofs.Ytebpngapkkdifab
