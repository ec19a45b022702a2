/- The document's Union: what it answers. -/
import Derived.Test.YtgehmidalfajgaaInb
import Derived.Test.YtgehmidalfajgaaRfs
namespace Go.Proofs.Ytgehmidalfajgaa
open Go.RowKit Go.Shelf

set_option maxHeartbeats 4000000 in
set_option maxRecDepth 100000 in
theorem rUnions_any (ad : Option Addr) (cap : Nat) (l : List Nat) (w : World) (h : RdS w ad l) (hl : l.length ≤ 4611686018427387904) : Calls Try.prog 18 #[.slice ad l.length cap] w fun e w' => e = .returned (sv (unis 0 l)) ∧ Below w.heap.size w w' := by
  have hmx : Try.prog.follows .mixedOrders = true := by kernel_rfl
  obtain ⟨w1, hw1⟩ : ∃ w1, (w.alloc (.cells #[.int .u32 0, .int .u32 0, .int .u32 0, .int .u32 0] 24)).alloc (.cells #[.int .u32 0, .int .u32 0, .int .u32 0, .int .u32 0] 24) = w1 := ⟨_, rfl⟩
  have hb1 : Below w.heap.size w w1 := by rw [← hw1]; exact bel2 (al1' _ _) (al1' _ _)
  have g1 : Holds4 w1 w.heap.size (fun _ => 0) := by rw [← hw1]; exact old_at (new_at rfl)
  have g2 : Holds4 w1 (w.heap.size + 1) (wd 0) := by
    have e : wd 0 = fun _ => 0 := by funext j; exact wd_zero j
    rw [← hw1, e]
    exact new_at (by simp)
  obtain ⟨R, hR⟩ : ∃ R, unis 0 l = R := ⟨_, rfl⟩
  rw [hR]
  go_enter Try.func18, Try.ntmps18
  go_wp2
  go_loopw [4] (fun c wz => ∃ (k : Nat), c = .int .i64 k ∧ k ≤ l.length ∧ Holds4 wz w.heap.size (fun _ => 0) ∧ Holds4 wz (w.heap.size + 1) (wd (unis 0 (l.take k))) ∧ Below w.heap.size w wz) (fun c _ => l.length - vnat c)
  case atStart => exact ⟨0, rfl, by omega, g1, g2, hb1⟩
  case round =>
    obtain ⟨k, rfl, hk, h1, h2, hb⟩ := hrel
    by_cases hkl : k < l.length
    · have hki : (k : Int) < (l.length : Int) := by omega
      have hne : l ≠ [] := fun e => by subst e; simp at hkl
      obtain ⟨b, off, rfl, hgl, hat⟩ := h hne
      obtain ⟨x, hx⟩ : ∃ x, l[k]? = some x := ⟨_, List.getElem?_eq_getElem hkl⟩
      have hes := unis_succ 0 l k x hx
      generalize unis 0 (l.take k) = M at *
      go_wp2
      refine wp_region_any hmx ?_
      refine wpAny_last 6 (fun i__ => ([(sv M), (.slice (some ⟨b, off, none⟩) l.length cap), (.int .i64 (k : Int)), (.pointer (some ⟨b, off + k * 4, none⟩)), (sv x), (sv (cln (M ||| x))), undef] : List Value).getD i__ undef) (fun V => Below wr.heap.size wr V) (fun V => Holds4 V w.heap.size (fun _ => 0) ∧ Holds4 V (w.heap.size + 1) (wd (cln (M ||| x))) ∧ Below w.heap.size w V) rfl (by kernel_rfl) (by kernel_rfl) (Below.refl _ _).drew ?_ ?_  ?_
      · refine (stepsFrom_cons ?_ (stepsFrom_cons ?_ (stepsFrom_cons ?_ (stepsFrom_cons ?_ (stepsFrom_cons ?_ (stepsFrom_cons ?_ trivial))))))
        · exact step_load rfl trivial _ _ _ rfl rfl (fun v hw => whole4 v _ M (h2.carry hw))
        · exact step_move rfl trivial _ rfl (by kernel_rfl)
        · exact step_move rfl trivial _ rfl (by kernel_rfl)
        · exact step_indexAddr rfl trivial _ _ _ _ _ rfl rfl rfl (fun v hw => idx_s b off _ _ k hkl v)
        · exact step_load rfl trivial _ _ _ rfl rfl (fun v hw => load_sk (hat.carry ((bel2 hb hw).block _ hgl)) hx)
        · exact step_call rfl trivial 39 _ _ [(sv M), (sv x)] rfl (by kernel_rfl) (enters_of Try.func39 (by kernel_rfl) rfl) (fun w hw => (rUnion_any M x w).mono (by rintro e w' ⟨rfl, hb⟩; exact ⟨rfl, bel2 hw hb⟩))
      · intro o ho
        cases ho
        exact step_store rfl trivial rfl _ _ _ _ _ rfl rfl rfl (fun v hw => ⟨set4 v (w.heap.size + 1) (cln (M ||| x)), store_s (h2.carry hw) _, (hold4 (by omega)).trans (h1.carry hw), fin4 (h2.carry hw) _, below4 (bel2 hb hw) (by omega) _⟩)
      intro W hW
      first | refine hK _ _ ?_ | refine (‹∀ (a : Act) (w : World), Code.wp Try.prog _ _ a w → _›) _ _ ?_
      simp only [finL, List.getD_cons_zero, List.getD_cons_succ, Nat.zero_add, Nat.reduceAdd, List.setIfInBounds_toArray, List.set_cons_zero, List.set_cons_succ]
      obtain ⟨hW1, hW2, hW3⟩ := hW
      go_wp2
      go_roundw
      case rel => exact ⟨k + 1, by simp, by omega, hW1, by rw [hes]; exact hW2, hW3⟩
      case measure => simp [vnat]; omega
    · have hkk : k = l.length := by omega
      subst hkk
      have hki : ¬ ((l.length : Int) < (l.length : Int)) := by omega
      rw [List.take_length, hR] at h2
      obtain ⟨y0, y1, y2, y3, z0, z1, z2, z3⟩ := h1.facts
      obtain ⟨x0, x1, x2, x3, _⟩ := h2.facts
      have H1 : Hid (Holds4 wr w.heap.size (fun _ => 0)) := h1
      clear h1 h2
      go_wp2
      exact ret4 rfl rfl rfl (fin4 H1.out _) ⟨rfl, below4 hb (Nat.le_refl _) _⟩
end Go.Proofs.Ytgehmidalfajgaa
