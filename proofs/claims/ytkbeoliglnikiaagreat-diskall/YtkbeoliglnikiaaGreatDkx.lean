/- disk's Image: the list that it tells is full. -/
import Derived.Test.YtkbeoliglnikiaaGreatDkf
namespace Go.Proofs.YtkbeoliglnikiaaGreat
open Go.RowKit Go.Shelf

/-- An append within the room behind the row. -/
theorem append_in {P : Program} (w : World) (base : Nat) (t ty e : TypeId) (i : TypeInfo) (ht : P.underlying t = some (.slice e)) (hi : P.info? e = some i) (hsize : i.size = 1) (g n cap : Nat) (xs : List Value) (hown : w.ownsRow base e 1 (.slice (some ⟨g, 0, none⟩) n cap) n xs)
    (a : Addr) (m c : Nat) (news : List Value) (hl : news.length = m * 1) (hnews : ∀ j u, news[j]? = some u → w.cell? (a.add j) = some u) (h1 : ∀ u ∈ news, u.oneCell' = true) (hroom : n + m ≤ cap) :
    ∃ w', (Builtin.append_ #[t, t] ty #[.slice (some ⟨g, 0, none⟩) n cap, .slice (some a) m c]).run P w = .ok (.slice (some ⟨g, 0, none⟩) (n + m) cap) w' ∧ w'.ownsRow base e 1 (.slice (some ⟨g, 0, none⟩) (n + m) cap) (n + m) (xs ++ news) ∧ w.grownBy w' (some g) := by
  have hlen : (xs ++ news).length = (n + m) * 1 := by rw [List.length_append, hown.1, hl, Nat.add_mul]
  rcases hown.2 with ⟨h, _⟩ | ⟨g', cap', cur, h, hbg, hg, hnc, hcm, hcs, htake⟩
  · cases h
  · cases h
    have hfit : n * i.size + news.length ≤ cur.size := by rw [hl, hcs, hsize, ← Nat.add_mul]; exact Nat.mul_le_mul_right _ hroom
    have hr := run_append_room (P := P) w t ty e i ht hi g n cap cur hg a m c news (by rw [hsize]; exact hl) hnews h1 hroom hfit
    refine ⟨_, hr, ⟨hlen, .inr ⟨g, cap, _, rfl, hbg, setRow_heap w g cur _ e _ hg, hroom, hcm, ?_, ?_⟩⟩, ⟨rfl, rfl, rfl, by simp, fun k _ hk => setRow_other w g k _ (fun e => hk (by rw [e]))⟩⟩
    · rw [hsize] at hfit ⊢
      simp only [List.size_toArray, List.length_append, List.length_take, List.length_drop, Array.length_toList]
      omega
    · rw [hsize, htake, ← hlen]
      exact List.take_left
theorem wpList_append_in {P : Program} (w : World) {ops : Array Oper} {rest : List Oper} {o : Oper} {a : Act} {Q : Exit → Act → World → Prop} (hg : o.guard = none) (s x : Operand) (t : TypeId) (hop : o.op = Op.call { callee := Callee.builtin Builtin.append, args := #[s, x], argTypes := #[t, t] }) (base : Nat) (e : TypeId) (i : TypeInfo) (ht : P.underlying t = some (.slice e)) (hi : P.info? e = some i) (hsize : i.size = 1) (g n cap : Nat) (xs : List Value) (hs : a.eval s = .slice (some ⟨g, 0, none⟩) n cap) (hown : w.ownsRow base e 1 (.slice (some ⟨g, 0, none⟩) n cap) n xs)
    (ad : Addr) (m c : Nat) (news : List Value) (hx : a.eval x = .slice (some ad) m c) (hl : news.length = m * 1) (hnews : ∀ j u, news[j]? = some u → w.cell? (ad.add j) = some u) (h1 : ∀ u ∈ news, u.oneCell' = true) (hroom : n + m ≤ cap)
    (h : ∀ w', w'.ownsRow base e 1 (.slice (some ⟨g, 0, none⟩) (n + m) cap) (n + m) (xs ++ news) → w.grownBy w' (some g) → wpList P ops Q rest (a.put o.dst (.slice (some ⟨g, 0, none⟩) (n + m) cap)) w') : wpList P ops Q (o :: rest) a w := by
  refine wpList_plain hg fun K hK' => ?_
  obtain ⟨w', hrun, r1, r2⟩ := append_in (P := P) w base t o.type e i ht hi hsize g n cap xs hown ad m c news hl hnews h1 hroom
  unfold Oper.wp
  simp [execOp, hop, resolve, invoke, builtin, hs, hx, hrun, Result.andThen]
  exact hK' _ _ (h w' r1 r2)
section
variable {W : World} {p : Nat} {d : Dst}
set_option maxHeartbeats 1000000 in
set_option maxRecDepth 100000 in
theorem image_full (h : Dk W p d) : Calls Tryz.prog 31 #[.pointer (some ⟨p, 0, none⟩)] W fun e w' => ∃ g, e = .returned (.slice (some ⟨g, 0, none⟩) 256 256) ∧ w'.ownsRow W.heap.size 5 1 (.slice (some ⟨g, 0, none⟩) 256 256) 256 (cB d.l) ∧ Below W.heap.size W w' := by
  obtain ⟨ic, hic, hz0, hz1, hz2⟩ := info_parts infoB
  have hm := mk256
  have hsl := slS_at
  obtain ⟨w1, hw1⟩ : ∃ w1, W.alloc (.cells z256 5) = w1 := ⟨_, rfl⟩
  have hb1 : Below W.heap.size W w1 := by rw [← hw1]; exact al1' _ _
  have ho1 : w1.ownsRow W.heap.size 5 1 (.slice (some ⟨W.heap.size, 0, none⟩) 0 256) 0 [] := by rw [← hw1]; exact own_made W 256 (by unfold maxLen; omega)
  go_enter Tryz.func31, Tryz.ntmps31
  go_wp2
  go_loopw [3, 8] (fun v i wz => ∃ (k n : Nat), i = .int .i64 k ∧ k ≤ 8 ∧ Hid (n = 32 * k) ∧ v = .slice (some ⟨W.heap.size, 0, none⟩) n 256 ∧ wz.ownsRow W.heap.size 5 1 (.slice (some ⟨W.heap.size, 0, none⟩) n 256) n (cB (d.l.take (32 * k))) ∧ Below W.heap.size W wz) (fun _ i _ => 8 - vnat i)
  case atStart => exact ⟨0, 0, rfl, by omega, rfl, rfl, by simpa [cB] using ho1, hb1⟩
  case round =>
    obtain ⟨k, n, rfl, hk, HN, rfl, ho, hb⟩ := hrel
    by_cases hk8 : k < 8
    · have hki : (k : Int) < 8 := by omega
      have hD := h.carry hb
      have hix := fun w => idx_s p k hk8 w
      have hsub := hD.at.sub (32 * k) 32
      rw [Nat.zero_add] at hsub
      have hln : ((d.l.drop (32 * k)).take 32).length = 32 := by rw [List.length_take, List.length_drop, h.len]; omega
      obtain ⟨X, hX⟩ : ∃ X, (d.l.drop (32 * k)).take 32 = X := ⟨_, rfl⟩
      rw [hX] at hsub hln
      have HX : Hid ((d.l.drop (32 * k)).take 32 = X) := hX
      have hn := HN.out
      have hnews := b_src hsub
      have hcl : (cB X).length = 32 * 1 := by rw [cB_len, hln]
      have hn1 : n + 32 ≤ 256 := by omega
      clear hX hsub hn
      go_wp2_with (at_builtin; refine wpList_append_in _ rfl _ _ 22 rfl W.heap.size 5 ic Tryz.underlying22 hic hz1 W.heap.size n 256 (cB (d.l.take (32 * k))) rfl ho ⟨p, 32 * k, none⟩ 32 32 (cB X) rfl hcl hnews (cB_one X) hn1 ?_; intro w2 ho2 hgu; have HO2 : Hid (w2.ownsRow W.heap.size 5 1 (.slice (some ⟨W.heap.size, 0, none⟩) (n + 32) 256) (n + 32) (cB (d.l.take (32 * k)) ++ cB X)) := ho2; have HB2 : Hid (Below W.heap.size W w2) := hb.grown hgu hb.size (fun q e => by cases e; exact Nat.le_refl _))
      go_roundw
      case rel =>
        refine ⟨k + 1, n + 32, by simp, by omega, by show n + 32 = _; have := HN.out; omega, rfl, ?_, HB2.out⟩
        rw [← take_step, HX.out, cB_app]
        exact HO2.out
      case measure => simp [vnat]; omega
    · have hk : k = 8 := by omega
      subst hk
      obtain rfl : n = 256 := HN.out
      rw [show 32 * 8 = 256 from rfl, List.take_of_length_le (Nat.le_of_eq h.len)] at ho
      go_wp2
      go_ret
      exact ⟨_, rfl, ho, hb⟩
end
end Go.Proofs.YtkbeoliglnikiaaGreat
