/- disk.Of: what it answers. -/
import Derived.Test.YtjleggnkacmbbaaDkg
namespace Go.Proofs.Ytjleggnkacmbbaa
open Go.RowKit Go.Shelf

theorem put_take (I Z : List Nat) (k : Nat) (hI : I.length = 256) (hk : k < 8) : putS (I.take (32 * k) ++ Z.drop (32 * k)) k (secs I k) = I.take (32 * (k + 1)) ++ Z.drop (32 * (k + 1)) := by
  have e1 : (I.take (32 * k)).length = 32 * k := by rw [List.length_take, hI]; omega
  have e2 := secs_len hI hk
  rw [putS, splice, List.take_append_of_le_length (by omega), List.take_of_length_le (by omega), e2, List.drop_append, List.drop_of_length_le (by omega), List.nil_append, e1, List.drop_drop, show 32 * k + (32 * k + 32 - 32 * k) = 32 * (k + 1) by omega, ← List.append_assoc, ← take_step]
  rfl
theorem secs_byt {l : List Nat} (h : Byt l) (k : Nat) : Byt (secs l k) := fun x hx => h x (List.mem_of_mem_drop (List.mem_of_mem_take hx))
set_option maxHeartbeats 1000000 in
theorem of_no (ad : Option Addr) (cap n : Nat) (w : World) (hn : ¬ n = 256) : Calls Try.prog 32 #[.slice ad n cap] w fun e w' => e = .returned (.tuple #[.pointer none, .int .i64 102]) ∧ w' = w := by
  have hni : ¬ (n : Int) = 256 := by omega
  go_enter Try.func32, Try.ntmps32
  go_wp2
  go_ret2
  exact ⟨rfl, rfl⟩
/-- The disk of an image. -/
def dOf (I : List Nat) : Dst := { d0 with l := I }
set_option maxHeartbeats 2000000 in
set_option maxRecDepth 100000 in
theorem of_ok (b off : Nat) (cap : Nat) (I : List Nat) (w : World) (hb : b < w.heap.size) (hat : BAt w b off I) (hI : I.length = 256) (hB : Byt I) (hc : 256 ≤ cap) : Calls Try.prog 32 #[.slice (some ⟨b, off, none⟩) 256 cap] w fun e w' => e = .returned (.tuple #[.pointer (some ⟨w.heap.size, 0, none⟩), .int .i64 0]) ∧ Dk w' w.heap.size (dOf I) ∧ w.heap.size < w'.heap.size ∧ Below w.heap.size w w' := by
  have hne := dnew_any w
  have hmx : Try.prog.follows .mixedOrders = true := by kernel_rfl
  have hfi := fun (k : Nat) => filled_any (some ⟨b, off + 32 * k, none⟩) 32 (secs I k)
  go_enter Try.func32, Try.ntmps32
  go_wp2_with (go_at_call 11; (with_reducible refine hne.mono ?_); rintro e u1 ⟨rfl, h1, hlt, hb1⟩)
  go_loopw [10] (fun i wz => ∃ k : Nat, i = .int .i64 k ∧ k ≤ 8 ∧ Dk wz w.heap.size { d0 with l := I.take (32 * k) ++ d0.l.drop (32 * k) } ∧ Below w.heap.size w wz) (fun i _ => 8 - vnat i)
  case atStart => exact ⟨0, rfl, by omega, h1, hb1⟩
  case round =>
    obtain ⟨k, rfl, hk, hD, hBw⟩ := hrel
    by_cases hk8 : k < 8
    · have hki : (k : Int) < 8 := by omega
      have hpa := fun v => part_any b off cap k v hk8 hc
      have hsl := secs_len hI hk8
      go_wp2
      rename_i Q0 K0 hK
      refine wp_region_any hmx ?_
      refine wpAny_last 9 (fun i__ => ([(.pointer (some ⟨w.heap.size, 0, none⟩)), (.int .i64 (k : Int)), (.slice (some ⟨b, off, none⟩) 256 cap), (.int .i64 (k : Int)), (.slice (some ⟨b, off + 32 * k, none⟩) 32 32), (.agg (cB (secs I k)).toArray), (.pointer (some ⟨w.heap.size, 0, none⟩)), (.pointer (some ⟨w.heap.size, 0, none⟩)), (.pointer (some ⟨w.heap.size, 32 * k, none⟩)), undef] : List Value).getD i__ undef) (fun V => Dk V w.heap.size { d0 with l := I.take (32 * k) ++ d0.l.drop (32 * k) } ∧ Below w.heap.size w V) (fun V => Dk V w.heap.size { d0 with l := I.take (32 * (k + 1)) ++ d0.l.drop (32 * (k + 1)) } ∧ Below w.heap.size w V) rfl (by kernel_rfl) (by kernel_rfl) ⟨hD.carry (Below.refl _ _).drew, hBw.drew⟩ ?_ ?_  ?_
      · refine (stepsFrom_cons ?_ (stepsFrom_cons ?_ (stepsFrom_cons ?_ (stepsFrom_cons ?_ (stepsFrom_cons ?_ (stepsFrom_cons ?_ (stepsFrom_cons ?_ (stepsFrom_cons ?_ (stepsFrom_cons ?_ trivial)))))))))
        · exact step_move rfl trivial _ rfl (by kernel_rfl)
        · exact step_move rfl trivial _ rfl (by kernel_rfl)
        · exact step_move rfl trivial _ rfl (by kernel_rfl)
        · exact step_move rfl trivial _ rfl (by kernel_rfl)
        · exact step_call rfl trivial 46 _ _ [(.slice (some ⟨b, off, none⟩) 256 cap), (.int .i64 (k : Int))] rfl (by kernel_rfl) (enters_of Try.func46 (by kernel_rfl) rfl) (fun v hw => (hpa v).mono (by rintro e w' ⟨rfl, rfl⟩; exact ⟨rfl, hw⟩))
        · exact step_call rfl trivial 45 _ _ [(.slice (some ⟨b, off + 32 * k, none⟩) 32 32)] rfl (by kernel_rfl) (enters_of Try.func45 (by kernel_rfl) rfl) (fun v hw => (hfi k v (fun _ => ⟨b, off + 32 * k, rfl, Nat.lt_of_lt_of_le hb hw.2.size, (hat.carry (hw.2.block b hb)).sub (32 * k) 32⟩) hsl).mono (by rintro e w' ⟨rfl, hb'⟩; exact ⟨rfl, hw.1.carry hb', bel2 hw.2 hb'⟩))
        · exact step_nilCheck rfl trivial _ _ _ rfl rfl rfl
        · exact step_fieldAddr rfl trivial _ _ _ _ rfl rfl (fun v hw => field_d0 v _)
        · exact step_indexAddr rfl trivial _ _ _ _ _ rfl rfl rfl (fun v hw => idx_s w.heap.size k hk8 v)
      · intro o ho
        cases ho
        exact step_store rfl trivial rfl _ _ _ _ _ rfl rfl rfl (fun v hw => by obtain ⟨v', a1, a2, a3⟩ := hw.1.put k (secs I k) hsl (secs_byt hB k) hk8; refine ⟨v', a1, ?_, hw.2.trans (a3.below (Nat.le_refl _) hw.2.size)⟩; dsimp only at a2; rw [put_take I d0.l k hI hk8] at a2; exact a2)
      intro W hW
      first | refine hK _ _ ?_ | refine (‹∀ (a : Act) (w : World), Code.wp Try.prog _ _ a w → _›) _ _ ?_
      simp only [finL, List.getD_cons_zero, List.getD_cons_succ, Nat.zero_add, Nat.reduceAdd, List.setIfInBounds_toArray, List.set_cons_zero, List.set_cons_succ]
      obtain ⟨hD2, hB2⟩ := hW
      clear hK
      go_wp2
      go_roundw
      case rel => exact ⟨k + 1, by simp, by omega, hD2, hB2⟩
      case measure => simp [vnat]; omega
    · have hk : k = 8 := by omega
      subst hk
      rw [show 32 * 8 = 256 from rfl, List.take_of_length_le (Nat.le_of_eq hI), List.drop_of_length_le (Nat.le_of_eq d0_len), List.append_nil] at hD
      go_wp2
      go_ret2
      exact ⟨rfl, hD, hD.lt, hBw⟩
end Go.Proofs.Ytjleggnkacmbbaa
