/- disk's Image, Read, Twin: what they answer. -/
import Derived.Test.YtjleggnkacmbbaaDkd
namespace Go.Proofs.Ytjleggnkacmbbaa
open Go.RowKit Go.Shelf

def vnat (v : Value) : Nat := match v with | .int _ n => n.toNat | _ => 0
def z256 : Array Value := (cB (List.replicate 256 0)).toArray
theorem mk256 (w : World) : (Instr.makeSlice 62 (.int .i64 0) (.int .i64 256)).run Try.prog w = .ok (.slice (some ⟨w.heap.size, 0, none⟩) 0 256) (w.alloc (.cells z256 5)) := by kernel_rfl
theorem slS_at (g o : Nat) (w : World) : (Instr.sliceAt 48 (.pointer (some ⟨g, o, none⟩)) none none none).run Try.prog w = .ok (.slice (some ⟨g, o, none⟩) 32 32) w := by go_simp
theorem infoB : (Try.prog.info? 5).map (fun i => (i.zero, i.size, i.bytes)) = some (some (.int .u8 0), 1, 1) := by kernel_rfl
theorem info_parts {t : TypeId} {z : Option Value} {s b : Nat} (h : (Try.prog.info? t).map (fun i => (i.zero, i.size, i.bytes)) = some (z, s, b)) : ∃ i, Try.prog.info? t = some i ∧ i.zero = z ∧ i.size = s ∧ i.bytes = b := by
  cases hi : Try.prog.info? t with
  | none => rw [hi] at h; cases h
  | some i =>
    rw [hi] at h
    simp only [Option.map_some, Option.some.injEq, Prod.mk.injEq] at h
    exact ⟨i, rfl, h.1, h.2.1, h.2.2⟩
theorem own_some {W : World} {base : Nat} {e : TypeId} {size : Nat} {v : Value} {n : Nat} {xs : List Value} (h : W.ownsRow base e size v n xs) (hn : 0 < n) : ∃ g c, v = .slice (some ⟨g, 0, none⟩) n c := by
  rcases own_form h with ⟨_, e2⟩ | ⟨g, c, e1, _⟩
  · omega
  · exact ⟨g, c, e1⟩
theorem own_cap {W : World} {base g n c : Nat} {e : TypeId} {xs : List Value} (h : W.ownsRow base e 1 (.slice (some ⟨g, 0, none⟩) n c) n xs) : n ≤ c := by
  rcases h.2 with ⟨e1, _⟩ | ⟨g1, c1, cur, e1, _, _, h4, _⟩
  · cases e1
  · cases e1
    exact h4
theorem own_made (w : World) (n : Nat) (hn : n ≤ maxLen) : (w.alloc (.cells (cB (List.replicate n 0)).toArray 5)).ownsRow w.heap.size 5 1 (.slice (some ⟨w.heap.size, 0, none⟩) 0 n) 0 [] := by
  refine ⟨rfl, .inr ⟨w.heap.size, n, _, rfl, Nat.le_refl _, new_at rfl, Nat.zero_le _, hn, ?_, ?_⟩⟩
  · simp [cB]
  · simp
theorem take_step (l : List Nat) (k : Nat) : l.take (32 * k) ++ (l.drop (32 * k)).take 32 = l.take (32 * (k + 1)) := by
  rw [show 32 * (k + 1) = 32 * k + 32 by omega, List.take_add]
section
variable {W : World} {p : Nat} {d : Dst}
set_option maxHeartbeats 1000000 in
set_option maxRecDepth 100000 in
theorem image_any (h : Dk W p d) : Calls Try.prog 37 #[.pointer (some ⟨p, 0, none⟩)] W fun e w' => ∃ g c, e = .returned (.slice (some ⟨g, 0, none⟩) 256 c) ∧ w'.ownsRow W.heap.size 5 1 (.slice (some ⟨g, 0, none⟩) 256 c) 256 (cB d.l) ∧ Below W.heap.size W w' := by
  obtain ⟨ic, hic, hz0, hz1, hz2⟩ := info_parts infoB
  have hm := mk256
  have hsl := slS_at
  obtain ⟨w1, hw1⟩ : ∃ w1, W.alloc (.cells z256 5) = w1 := ⟨_, rfl⟩
  have hb1 : Below W.heap.size W w1 := by rw [← hw1]; exact al1' _ _
  have ho1 : w1.ownsRow W.heap.size 5 1 (.slice (some ⟨W.heap.size, 0, none⟩) 0 256) 0 [] := by rw [← hw1]; exact own_made W 256 (by unfold maxLen; omega)
  go_enter Try.func37, Try.ntmps37
  go_wp2
  go_loopw [3, 8] (fun v i wz => ∃ (k n g c : Nat), i = .int .i64 k ∧ k ≤ 8 ∧ Hid (n = 32 * k) ∧ v = .slice (some ⟨g, 0, none⟩) n c ∧ wz.ownsRow W.heap.size 5 1 v n (cB (d.l.take (32 * k))) ∧ Below W.heap.size W wz) (fun _ i _ => 8 - vnat i)
  case atStart => exact ⟨0, 0, W.heap.size, 256, rfl, by omega, rfl, rfl, by simpa [cB] using ho1, hb1⟩
  case round =>
    obtain ⟨k, n, g, c, rfl, hk, HN, rfl, ho, hb⟩ := hrel
    by_cases hk8 : k < 8
    · have hki : (k : Int) < 8 := by omega
      have hD := h.carry hb
      have hix := fun w => idx_s p k hk8 w
      have hsub := hD.at.sub (32 * k) 32
      rw [Nat.zero_add] at hsub
      have hln : ((d.l.drop (32 * k)).take 32).length = 32 := by rw [List.length_take, List.length_drop, h.len]; omega
      obtain ⟨X, hX⟩ : ∃ X, (d.l.drop (32 * k)).take 32 = X := ⟨_, rfl⟩
      rw [hX] at hsub hln
      have HX : Hid ((d.l.drop (32 * k)).take 32 = X) := hX
      have hn := HN.out
      have hnews := b_src hsub
      have hcl : (cB X).length = 32 * 1 := by rw [cB_len, hln]
      clear hX hsub
      have hn1 : n + 32 ≤ 256 := by omega
      clear hn
      go_wp2_with (at_builtin; refine wpList_append_own_at _ rfl _ _ 62 rfl W.heap.size 5 ic _ 1 1 Try.underlying62 hic hz0 hz1 hz2 rfl (by decide) _ n _ rfl ho ⟨p, 32 * k, none⟩ 32 32 (cB X) rfl (by rw [hcl]) hnews (cB_one X) (by unfold maxLen; omega) (by omega) hb.size ?_; intro v u ho2 hgu hnn _; have hbu : Below W.heap.size W u := hb.grown hgu hb.size (fun q e => own_block ho q e); obtain ⟨g2, c2, rfl⟩ := own_some ho2 (by omega))
      go_roundw
      case rel =>
        refine ⟨k + 1, n + 32, g2, c2, by simp, by omega, by show n + 32 = _; have := HN.out; omega, rfl, ?_, hbu⟩
        rw [← take_step, HX.out, cB_app]
        exact ho2
      case measure => simp [vnat]; omega
    · have hk : k = 8 := by omega
      subst hk
      obtain rfl : n = 256 := HN.out
      rw [show 32 * 8 = 256 from rfl, List.take_of_length_le (Nat.le_of_eq h.len)] at ho
      go_wp2
      go_ret
      exact ⟨g, c, rfl, ho, hb⟩
end
end Go.Proofs.Ytjleggnkacmbbaa
