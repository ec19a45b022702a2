/- like: the same kinds and texts. -/
import Derived.Test.YtibhljdiofglfaaDoorBlb
import Derived.Test.YtibhljdiofglfaaDoorVla
import Derived.Test.YtibhljdiofglfaaDoorRgf
namespace Go.Proofs.YtibhljdiofglfaaDoor
open Go.RowKit Go.Shelf

theorem fdq0 (W : World) (g k : Nat) : (Instr.fieldAt 32 (.pointer (some ⟨g, k, none⟩)) 0).run Tryd.prog W = .ok (.pointer (some ⟨g, k, none⟩)) W := by
  go_simp
theorem fdq1 (W : World) (g k : Nat) : (Instr.fieldAt 32 (.pointer (some ⟨g, k, none⟩)) 1).run Tryd.prog W = .ok (.pointer (some ⟨g, k + 1, none⟩)) W := by
  go_simp
theorem ldqi {W : World} {g k : Nat} {x : Int} (h : W.cell? ⟨g, k, none⟩ = some (.int .i64 x)) : (Instr.loadAt 3 (.pointer (some ⟨g, k, none⟩))).run Tryd.prog W = .ok (.int .i64 x) W := by
  go_simp
theorem ldqs {W : World} {g k : Nat} {x : ByteArray} (h : W.cell? ⟨g, k, none⟩ = some (.string x)) : (Instr.loadAt 9 (.pointer (some ⟨g, k, none⟩))).run Tryd.prog W = .ok (.string x) W := by
  go_simp
theorem neqQi {x y : Operand} {w : World} (a : Int) : binRun Tryd.prog .neq 3 x y (.int .i64 a) (.int .i64 a) w = .ok (.bool false) w := by simp [binRun, go_sem]
theorem neqQs {x y : Operand} {w : World} (a : ByteArray) : binRun Tryd.prog .neq 9 x y (.string a) (.string a) w = .ok (.bool false) w := by simp [binRun, go_sem]
theorem kt_at {l l' : List Fou} (h : l.map kt = l'.map kt) (k : Nat) (x : Fou) (hx : l[k]? = some x) : ∃ y : Fou, l'[k]? = some y ∧ y.1 = x.1 ∧ y.2.1 = x.2.1 := by
  have h1 : (l.map kt)[k]? = some (kt x) := by rw [List.getElem?_map, hx]; rfl
  rw [h, List.getElem?_map] at h1
  cases hy : l'[k]? with
  | none => rw [hy] at h1; cases h1
  | some y =>
    rw [hy] at h1
    have e : kt y = kt x := by simpa using h1
    unfold kt at e
    exact ⟨y, rfl, (Prod.mk.inj e).1, (Prod.mk.inj e).2⟩
set_option maxHeartbeats 1000000 in
set_option maxRecDepth 100000 in
theorem like_any (ad ad' : Option Addr) (cap cap' n : Nat) (l l' : List Fou) (w : World) (h : RdQ w ad l) (h' : RdQ w ad' l') (hn : l.length = n) (hk : l.map kt = l'.map kt) (hl : n ≤ 4611686018427387904) : Calls Tryd.prog 12 #[.slice ad n cap, .slice ad' n cap'] w fun e w' => e = .returned (.bool true) ∧ Below w.heap.size w w' := by
  have hmx : Tryd.prog.follows .mixedOrders = true := by kernel_rfl
  go_enter Tryd.func12, Tryd.ntmps12
  go_wp2
  go_loopw [5] (fun c wz => ∃ k : Nat, c = .int .i64 k ∧ k ≤ n ∧ Below w.heap.size w wz) (fun c _ => n - vnatQ c)
  case atStart => exact ⟨0, rfl, Nat.zero_le _, Below.refl _ _⟩
  case round =>
    obtain ⟨k, rfl, hkn, hbw⟩ := hrel
    by_cases hkl : k < n
    · have hki : (k : Int) < (n : Int) := by omega
      have hne : l ≠ [] := fun e => by subst e; simp at hn; omega
      obtain ⟨x, hx⟩ : ∃ x, l[k]? = some x := ⟨_, List.getElem?_eq_getElem (by omega)⟩
      obtain ⟨y, hy, y1, y2⟩ := kt_at hk k x hx
      have hne' : l' ≠ [] := fun e => by subst e; simp at hy
      obtain ⟨b, off, rfl, hgl, hat⟩ := h hne
      obtain ⟨b', off', rfl, hgl', hat'⟩ := h' hne'
      obtain ⟨c0, c1, _, _⟩ := hat k x hx
      obtain ⟨d0, d1, _, _⟩ := hat' k y hy
      rw [y1] at d0
      rw [y2] at d1
      obtain ⟨x0, x1, x2, x3⟩ := x
      dsimp only at c0 c1 d0 d1
      clear hx hy y1 y2
      go_wp2
      refine wp_region_any hmx ?_
      refine wpAny_pure (fun i__ => ([(.slice (some ⟨b, off, none⟩) n cap), (.int .i64 (k : Int)), (.pointer (some ⟨b, off + k * 4, none⟩)), (.pointer (some ⟨b, off + k * 4, none⟩)), (.int .i64 x0), (.slice (some ⟨b', off', none⟩) n cap'), (.int .i64 (k : Int)), (.pointer (some ⟨b', off' + k * 4, none⟩)), (.pointer (some ⟨b', off' + k * 4, none⟩)), (.int .i64 x0), (.bool false), (.bool false), (.slice (some ⟨b, off, none⟩) n cap), (.int .i64 (k : Int)), (.pointer (some ⟨b, off + k * 4, none⟩)), (.pointer (some ⟨b, off + k * 4 + 1, none⟩)), (.string x1), (.slice (some ⟨b', off', none⟩) n cap'), (.int .i64 (k : Int)), (.pointer (some ⟨b', off' + k * 4, none⟩)), (.pointer (some ⟨b', off' + k * 4 + 1, none⟩)), (.string x1), (.bool false), (.bool false)] : List Value).getD i__ undef) (fun W => Below w.heap.size w W) (by kernel_rfl) hbw.drew ?_ ?_
      · refine (stepsFrom_cons ?_ (stepsFrom_cons ?_ (stepsFrom_cons ?_ (stepsFrom_cons ?_ (stepsFrom_cons ?_ (stepsFrom_cons ?_ (stepsFrom_cons ?_ (stepsFrom_cons ?_ (stepsFrom_cons ?_ (stepsFrom_cons ?_ (stepsFrom_cons ?_ (stepsFrom_cons ?_ (stepsFrom_cons ?_ (stepsFrom_cons ?_ (stepsFrom_cons ?_ (stepsFrom_cons ?_ (stepsFrom_cons ?_ (stepsFrom_cons ?_ (stepsFrom_cons ?_ (stepsFrom_cons ?_ (stepsFrom_cons ?_ (stepsFrom_cons ?_ (stepsFrom_cons ?_ (stepsFrom_cons ?_ trivial))))))))))))))))))))))))
        · exact step_move rfl trivial _ rfl (by kernel_rfl)
        · exact step_move rfl trivial _ rfl (by kernel_rfl)
        · exact step_indexAddr rfl trivial _ _ _ _ _ rfl rfl rfl (fun w hw => idx_q b off _ _ k hkl w)
        · exact step_fieldAddr rfl trivial _ _ _ _ rfl rfl (fun w hw => fdq0 _ _ _)
        · exact step_load rfl trivial _ _ _ rfl rfl (fun w hw => ldqi ((World.cell?_of_block (a := ⟨b, _, none⟩) (hw.block _ hgl)).trans c0))
        · exact step_move rfl trivial _ rfl (by kernel_rfl)
        · exact step_move rfl trivial _ rfl (by kernel_rfl)
        · exact step_indexAddr rfl trivial _ _ _ _ _ rfl rfl rfl (fun w hw => idx_q b' off' _ _ k hkl w)
        · exact step_fieldAddr rfl trivial _ _ _ _ rfl rfl (fun w hw => fdq0 _ _ _)
        · exact step_load rfl trivial _ _ _ rfl rfl (fun w hw => ldqi ((World.cell?_of_block (a := ⟨b', _, none⟩) (hw.block _ hgl')).trans d0))
        · exact step_binOp rfl trivial _ _ _ _ _ _ _ rfl rfl rfl (fun w hw => neqQi _)
        · exact step_move rfl trivial _ rfl (by kernel_rfl)
        · exact step_move rfl (by exact ⟨_, rfl, by kernel_rfl⟩) _ rfl (by kernel_rfl)
        · exact step_move rfl (by exact ⟨_, rfl, by kernel_rfl⟩) _ rfl (by kernel_rfl)
        · exact step_indexAddr rfl (by exact ⟨_, rfl, by kernel_rfl⟩) _ _ _ _ _ rfl rfl rfl (fun w hw => idx_q b off _ _ k hkl w)
        · exact step_fieldAddr rfl (by exact ⟨_, rfl, by kernel_rfl⟩) _ _ _ _ rfl rfl (fun w hw => fdq1 _ _ _)
        · exact step_load rfl (by exact ⟨_, rfl, by kernel_rfl⟩) _ _ _ rfl rfl (fun w hw => ldqs ((World.cell?_of_block (a := ⟨b, _, none⟩) (hw.block _ hgl)).trans c1))
        · exact step_move rfl (by exact ⟨_, rfl, by kernel_rfl⟩) _ rfl (by kernel_rfl)
        · exact step_move rfl (by exact ⟨_, rfl, by kernel_rfl⟩) _ rfl (by kernel_rfl)
        · exact step_indexAddr rfl (by exact ⟨_, rfl, by kernel_rfl⟩) _ _ _ _ _ rfl rfl rfl (fun w hw => idx_q b' off' _ _ k hkl w)
        · exact step_fieldAddr rfl (by exact ⟨_, rfl, by kernel_rfl⟩) _ _ _ _ rfl rfl (fun w hw => fdq1 _ _ _)
        · exact step_load rfl (by exact ⟨_, rfl, by kernel_rfl⟩) _ _ _ rfl rfl (fun w hw => ldqs ((World.cell?_of_block (a := ⟨b', _, none⟩) (hw.block _ hgl')).trans d1))
        · exact step_binOp rfl (by exact ⟨_, rfl, by kernel_rfl⟩) _ _ _ _ _ _ _ rfl rfl rfl (fun w hw => neqQs _)
        · exact step_pick rfl trivial _ _ _ false rfl (by kernel_rfl) (by kernel_rfl)
      intro W hW
      first | refine hK _ _ ?_ | refine (‹∀ (a : Act) (w : World), Code.wp Tryd.prog _ _ a w → _›) _ _ ?_ | skip
      simp only [finL, List.getD_cons_zero, List.getD_cons_succ, Nat.zero_add, Nat.reduceAdd, List.setIfInBounds_toArray, List.set_cons_zero, List.set_cons_succ]
      go_wp2
      go_roundw
      case rel => exact ⟨k + 1, by simp, by omega, hW⟩
      case measure => simp [vnatQ]; omega
    · have hkk : k = n := by omega
      subst hkk
      have hki : ¬ ((k : Int) < (k : Int)) := by omega
      go_wp2
      go_ret
      exact ⟨rfl, hbw⟩
end Go.Proofs.YtibhljdiofglfaaDoor
