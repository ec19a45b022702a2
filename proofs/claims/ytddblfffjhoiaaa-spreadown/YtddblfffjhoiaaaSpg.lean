/- spread.Above: what it answers, at any books, nil ones too. -/
import Derived.Test.YtddblfffjhoiaaaSpf
namespace Go.Proofs.Ytddblfffjhoiaaa
open Go.RowKit Go.Shelf Go.Lib
attribute [local go_sem] Oper.semAt_some

theorem row_from {w : World} {base base' : Nat} {e : TypeId} {size : Nat} {v : Value} {n : Nat} {xs : List Value} (h : w.ownsRow base e size v n xs) (hb : base' ≤ base) : w.ownsRow base' e size v n xs := by
  refine ⟨h.1, ?_⟩
  rcases h.2 with h1 | ⟨g, cap, cur, h1, h2, h3, h4⟩
  · exact .inl h1
  · exact .inr ⟨g, cap, cur, h1, Nat.le_trans hb h2, h3, h4⟩
theorem allW_any {w : World} {v : Value} {l : List N3} (h : BV w v l) : Calls Try.prog 29 #[v] w fun e w' => ∃ bx q, e = .returned (.func (.func 51) #[] #[.pointer (some ⟨bx, 0, none⟩)]) ∧ q < w'.heap.size ∧ SeqE Try.prog (fun _ => True) 51 #[.pointer (some ⟨bx, 0, none⟩)] (fun x : N3 => #[nt x.1 x.2.1 x.2.2]) q 0 l w' ∧ Below w.heap.size w w' := by
  rcases h with ⟨rfl, rfl⟩ | ⟨p, g, rfl, h, h0, h1, _⟩
  · refine (eall_any (.inl rfl)).mono ?_
    rintro e w' ⟨bx, rfl, _, hs, hb⟩
    exact ⟨bx, bx, rfl, lt_at hs, all0_seq bx w' hs, hb⟩
  · refine (ball_any h h0 h1).mono ?_
    rintro e w' ⟨bx, gt, rfl, _, _, hs, hb⟩
    exact ⟨bx, gt, rfl, lt_at hs.row, all1_seq l bx gt w' h1 hs, hb⟩
/-- Does x beat what the book has of its node? -/
def abn (l : List N3) (x : N3) : Bool := btx x (atN l x.1)
/-- What Above tells. -/
def abv (a b : List N3) : List N3 := if a.length = b.length then a.filter (abn b) else []
def BxB (W : World) (b : Nat) (v : Value) : Prop := W.heap[b]? = some (.cells #[v] 25 (0, 0))
set_option maxHeartbeats 4000000 in
set_option maxRecDepth 100000 in
theorem above1_any {w : World} (b : Nat) (v : Value) (l : List N3) (o t k : Int) (hb : BxB w b v) (hv : BV w v l) : Calls Try.prog 26 #[nt o t k, .pointer (some ⟨b, 0, none⟩)] w fun e w' => e = .returned (.bool (!abn l (o, t, k))) ∧ Below w.heap.size w w' := by
  obtain ⟨a, rfl⟩ := hv.ptr
  obtain ⟨w1, hw1⟩ : ∃ w1, w.alloc (.cells #[.int .i64 o, .int .i64 t, .int .i64 k] 32) = w1 := ⟨_, rfl⟩
  have hb1 : Below w.heap.size w w1 := by rw [← hw1]; exact al1 _ _
  have hn : NB w1 w.heap.size o t k := by rw [← hw1]; exact NB.new _ _ _ _
  have c0 : w1.cell? ⟨b, 0, none⟩ = some (.pointer a) := cell_at ((hb1.block _ (lt_at hb)).trans hb) 0
  have n0 := hn.c0
  have n1 := hn.c1
  have n2 := hn.c2
  have ha := atW_any (hv.carry hb1) o
  have HA : Hid (abn l (o, t, k) = btx (o, t, k) (atN l o)) := rfl
  generalize atN l o = y at ha HA
  generalize atE l o = E at ha
  obtain ⟨o', t', k'⟩ := y
  have hbt := beats_any o t k o' t' k'
  have HB : Hid (abn l (o, t, k) = bt o t k o' t' k') := HA.out
  clear hv hb HA
  unfold nt at ha hbt ⊢
  dsimp only at ha
  go_enter Try.func26, Try.ntmps26
  go_wp2_with (first | (go_at_call 12; (with_reducible refine ha.mono ?_); rintro e u1 ⟨rfl, hb2⟩; obtain ⟨u2, hu2⟩ : ∃ u2, u1.alloc (.cells #[.int .i64 o', .int .i64 t', .int .i64 k'] 32) = u2 := ⟨_, rfl⟩; have hb3 : Below u1.heap.size u1 u2 := (by rw [← hu2]; exact al1 _ _); have hm2 : NB u2 u1.heap.size o' t' k' := (by rw [← hu2]; exact NB.new _ _ _ _); have hn2 := (hn.carry hb2).carry hb3; have c3 := hm2.c0; have c4 := hm2.c1; have c5 := hm2.c2; have d0 := hn2.c0; have d1 := hn2.c1; have d2 := hn2.c2; have hc := hbt u2) | (go_at_call 15; (with_reducible refine hc.mono ?_); rintro e u3 ⟨rfl, hb4⟩))
  go_ret
  refine ⟨?_, bel2 (bel2 (bel2 hb1 hb2) hb3) hb4⟩
  rw [HB.out]
  rfl
set_option maxHeartbeats 4000000 in
set_option maxRecDepth 100000 in
theorem above_any {w : World} {va vb : Value} {la lb : List N3} (ha : BV w va la) (hb : BV w vb lb) : Calls Try.prog 11 #[va, vb] w fun e w' => ∃ v, e = .returned (.tuple #[v, .int .i64 (if la.length = lb.length then 0 else 1)]) ∧ Made w w' v (abv la lb) ∧ Below w.heap.size w w' := by
  obtain ⟨a, rfl⟩ := ha.ptr
  obtain ⟨b, rfl⟩ := hb.ptr
  obtain ⟨w1, hw1⟩ : ∃ w1, w.alloc (.cells #[.pointer b] 25) = w1 := ⟨_, rfl⟩
  have hb1 : Below w.heap.size w w1 := by rw [← hw1]; exact al1 _ _
  have hx1 : BxB w1 w.heap.size (.pointer b) := by rw [← hw1]; exact new_at rfl
  have c1 : w1.cell? ⟨w.heap.size, 0, none⟩ = some (.pointer b) := cell_at hx1 0
  obtain ⟨w2, hw2⟩ : ∃ w2, w1.alloc (.cells #[.pointer a, .pointer b] 25) = w2 := ⟨_, rfl⟩
  have hb2 : Below w1.heap.size w1 w2 := by rw [← hw2]; exact al1 _ _
  have hr2 : w2.heap[w1.heap.size]? = some (.cells #[.pointer a, .pointer b] 25 (0, 0)) := by rw [← hw2]; exact new_at rfl
  have h2 : BVs w2 (some ⟨w1.heap.size, 0, none⟩) [.pointer a, .pointer b] [la, lb] := ⟨rfl, fun _ => ⟨_, _, rfl, lt_at hr2, fun k v hk => by rw [Nat.zero_add]; exact (cell_at hr2 k).trans (by simpa using hk)⟩, fun k v l h1 h2 => by
    match k, h1, h2 with
    | 0, h1, h2 => cases h1; cases h2; exact (ha.carry hb1).carry hb2
    | 1, h1, h2 => cases h1; cases h2; exact (hb.carry hb1).carry hb2
    | k + 2, h1, h2 => simp at h1⟩
  have ho : Calls Try.prog 22 #[.slice (some ⟨w1.heap.size, 0, none⟩) 2 2] w2 fun e w' => e = .returned (.bool (ones [la, lb])) ∧ Below w2.heap.size w2 w' := one_any (some ⟨w1.heap.size, 0, none⟩) 2 _ _ h2 (by simp) (by simp)
  have hO : ones [la, lb] = decide (la.length = lb.length) := by
    simp only [ones, List.headD_cons, List.all_cons, List.all_nil, Bool.and_true, decide_true, Bool.true_and]
    by_cases e : la.length = lb.length <;> simp [e, eq_comm]
  rw [hO] at ho
  clear hO h2
  have hla := ha.len
  unfold abv
  by_cases e : la.length = lb.length
  · rw [if_pos e, if_pos e]
    rw [decide_eq_true e] at ho
    clear e
    have hal := fun (W : World) (hW : Below w2.heap.size w2 W) => allW_any (((ha.carry hb1).carry hb2).carry hW)
    have hfl : (la.filter (abn lb)).length ≤ 1000000 := Nat.le_trans (List.length_filter_le _ _) (by omega)
    go_enter Try.func11, Try.ntmps11
    go_wp2_with (first | (go_at_call 22; (with_reducible refine ho.mono ?_); rintro e u3 ⟨rfl, hb3⟩; have hal3 := hal _ hb3; clear hal) | (go_at_call 29; (with_reducible refine hal3.mono ?_); rintro e u4 ⟨bx, q, rfl, hq, hsq, hb4⟩; have hps := pass_any u4 51 26 #[.pointer (some ⟨bx, 0, none⟩)] #[.pointer (some ⟨w.heap.size, 0, none⟩)]) | (go_at_call 28; (with_reducible refine hps.mono ?_); rintro e u5 ⟨rfl, hp5, hq5, hb5⟩; have hbb : Below w1.heap.size w1 u5 := bel2 (bel2 (bel2 hb2 hb3) hb4) hb5; have hx5 : BxB u5 w.heap.size (.pointer b) := (hbb.block _ (lt_at hx1)).trans hx1; have hv5 := (hb.carry hb1).carry hbb; have hqq : q < u5.heap.size := Nat.lt_of_lt_of_le hq hb5.size; have hs2 := passA_seq (w := u5) la u4.heap.size (u4.heap.size + 1) bx w.heap.size q (abn lb) _ (fun W => BxB W w.heap.size (.pointer b) ∧ BV W (.pointer b) lb) (hsq.at hb5) hp5 hqq (fun x _ W hW => above1_any w.heap.size (.pointer b) lb x.1 x.2.1 x.2.2 hW.1 hW.2); have hco := collect_any u4.heap.size (u4.heap.size + 1) hs2 hqq (fun W hW => ⟨trivial, ⟨(hW.block _ (lt_at hx5)).trans hx5, hv5.carry hW⟩, (hW.block _ (lt_at hq5)).trans hq5⟩) hfl; clear hs2 hsq) | (go_at_call 27; (with_reducible refine hco.mono ?_); rintro e u6 ⟨v, rfl, hmd, hb6⟩; obtain ⟨ad6, cap6, rfl, hrd, hnew⟩ := hmd.rd))
    go_ret2
    have hbf : Below w.heap.size w u6 := bel2 hb1 (bel2 hbb hb6)
    exact ⟨_, rfl, row_from hmd (bel2 hb1 hbb).size, hbf⟩
  · rw [if_neg e, if_neg e]
    rw [decide_eq_false e] at ho
    clear e
    go_enter Try.func11, Try.ntmps11
    go_wp2_with (go_at_call 22; (with_reducible refine ho.mono ?_); rintro e u3 ⟨rfl, hb3⟩)
    go_ret2
    exact ⟨_, rfl, World.ownsRow_nil _ _ _ _, bel2 hb1 (bel2 hb2 hb3)⟩
end Go.Proofs.Ytddblfffjhoiaaa
