/- earshotbook's SameBytes, SameGram, SameBag where they are alike; the statements' alive. -/
import Derived.Test.YtjfbnikbmadgkaaGreatBgk
import Derived.Laws.IdiomStrings
namespace Go.Proofs.YtjfbnikbmadgkaaGreat
open Go.RowKit Go.Shelf

theorem idx_bz (g off n cap k : Nat) (h : k < n) (w : World) : (Instr.indexAt 55 (.slice (some ⟨g, off, none⟩) n cap) (.int .i64 (k : Int))).run Tryz.prog w = .ok (.pointer (some ⟨g, off + k, none⟩)) w := by
  have h1 : (k : Int) < (n : Int) := by omega
  go_simp
set_option maxHeartbeats 1000000 in
set_option maxRecDepth 100000 in
theorem sameB_yes (ad ad' : Option Addr) (cap cap' : Nat) (l : List Nat) (w : World) (h : RdB w ad l) (h' : RdB w ad' l) (hl : l.length ≤ 4611686018427387904) : Calls Tryz.prog 83 #[.slice ad l.length cap, .slice ad' l.length cap'] w fun e w' => e = .returned (.bool true) ∧ Below w.heap.size w w' := by
  have hmx : Tryz.prog.follows .mixedOrders = true := by kernel_rfl
  go_enter Tryz.func83, Tryz.ntmps83
  go_wp2
  go_loopw [5] (fun c wz => ∃ k : Nat, c = .int .i64 k ∧ k ≤ l.length ∧ Below w.heap.size w wz) (fun c _ => l.length - vnat c)
  case atStart => exact ⟨0, rfl, Nat.zero_le _, Below.refl _ _⟩
  case round =>
    obtain ⟨k, rfl, hk, hbw⟩ := hrel
    by_cases hkl : k < l.length
    · have hki : (k : Int) < (l.length : Int) := by omega
      have hne : l ≠ [] := fun e => by subst e; simp at hkl
      obtain ⟨g, off, rfl, hgl, hat⟩ := h hne
      obtain ⟨g', off', rfl, hgl', hat'⟩ := h' hne
      obtain ⟨x, hx⟩ : ∃ x, l[k]? = some x := ⟨_, List.getElem?_eq_getElem hkl⟩
      have c0 := hat k x hx
      have c0' := hat' k x hx
      go_wp2
      refine wp_region_any hmx ?_
      refine wpAny_pure (fun i__ => ([(.slice (some ⟨g, off, none⟩) l.length cap), (.int .i64 (k : Int)), (.pointer (some ⟨g, off + k, none⟩)), (.int .u8 (x : Int)), (.slice (some ⟨g', off', none⟩) l.length cap'), (.int .i64 (k : Int)), (.pointer (some ⟨g', off' + k, none⟩)), (.int .u8 (x : Int)), (.bool true), (.bool false)] : List Value).getD i__ undef) (fun W => Below w.heap.size w W) (by kernel_rfl) hbw.drew ?_ ?_
      · refine (stepsFrom_cons ?_ (stepsFrom_cons ?_ (stepsFrom_cons ?_ (stepsFrom_cons ?_ (stepsFrom_cons ?_ (stepsFrom_cons ?_ (stepsFrom_cons ?_ (stepsFrom_cons ?_ (stepsFrom_cons ?_ (stepsFrom_cons ?_ trivial))))))))))
        · exact step_move rfl trivial _ rfl (by kernel_rfl)
        · exact step_move rfl trivial _ rfl (by kernel_rfl)
        · exact step_indexAddr rfl trivial _ _ _ _ _ rfl rfl rfl (fun w hw => idx_bz g off _ _ k hkl w)
        · exact step_load rfl trivial _ _ _ rfl rfl (fun w hw => load_u8 ((hw.cell (p := ⟨g, off + k, none⟩) hgl).trans c0))
        · exact step_move rfl trivial _ rfl (by kernel_rfl)
        · exact step_move rfl trivial _ rfl (by kernel_rfl)
        · exact step_indexAddr rfl trivial _ _ _ _ _ rfl rfl rfl (fun w hw => idx_bz g' off' _ _ k hkl w)
        · exact step_load rfl trivial _ _ _ rfl rfl (fun w hw => load_u8 ((hw.cell (p := ⟨g', off' + k, none⟩) hgl').trans c0'))
        · exact step_binOp rfl trivial _ _ _ _ _ _ _ rfl rfl rfl (fun w hw => (bin_eql .u8 _ _).trans (by simp))
        · exact step_unOp rfl trivial _ _ _ _ rfl rfl (fun w hw => un_not true w)
      intro W hW
      first | refine hK _ _ ?_ | refine (‹∀ (a : Act) (w : World), Code.wp Tryz.prog _ _ a w → _›) _ _ ?_ | skip
      simp only [finL, List.getD_cons_zero, List.getD_cons_succ, Nat.zero_add, Nat.reduceAdd, List.setIfInBounds_toArray, List.set_cons_zero, List.set_cons_succ]
      go_wp2
      go_roundw
      case rel => exact ⟨k + 1, by simp, by omega, hW⟩
      case measure => simp [vnat]; omega
    · have hkk : k = l.length := by omega
      subst hkk
      have hki : ¬ ((l.length : Int) < (l.length : Int)) := by omega
      go_wp2
      go_ret
      exact ⟨rfl, hbw⟩
set_option maxHeartbeats 1000000 in
set_option maxRecDepth 100000 in
theorem sameG_yes (x : Gr) (a a' : Option Addr) (c c' : Nat) (w : World) (h : RdB w a x.2.2.2) (h' : RdB w a' x.2.2.2) (hl : x.2.2.2.length ≤ 4611686018427387904) : Calls Tryz.prog 18 #[gV x a c, gV x a' c'] w fun e w' => e = .returned (.bool true) ∧ Below w.heap.size w w' := by
  obtain ⟨xi, xf, xt, xd⟩ := x
  dsimp only at h h' hl
  obtain ⟨V, hV⟩ : ∃ V, (w.alloc (.cells #[.int .i64 xi, .int .i64 xf, .int .i64 xt, .slice a xd.length c] 62)).alloc (.cells #[.int .i64 xi, .int .i64 xf, .int .i64 xt, .slice a' xd.length c'] 62) = V := ⟨_, rfl⟩
  have hb : Below w.heap.size w V := by rw [← hV]; exact bel2 (al1' _ _) (al1' _ _)
  have hs := sameB_yes a a' c c' xd V (h.carry hb) (h'.carry hb) hl
  have g1 : GB V w.heap.size xi xf xt (.slice a xd.length c) := by rw [← hV]; exact old_at (new_at rfl)
  have g2 : GB V (w.heap.size + 1) xi xf xt (.slice a' xd.length c') := by rw [← hV]; exact new_at (by simp)
  have p0 := g1.c0
  have p1 := g1.c1
  have p2 := g1.c2
  have p3 := g1.c3
  have r0 := g2.c0
  have r1 := g2.c1
  have r2 := g2.c2
  have r3 := g2.c3
  unfold gV
  go_enter Tryz.func18, Tryz.ntmps18
  go_wp2_with (go_at_call 83; (with_reducible refine hs.mono ?_); rintro e u1 ⟨rfl, hb1⟩)
  go_ret
  exact ⟨rfl, bel2 hb hb1⟩
/-- A slice of datagrams, read. -/
def RdG (W : World) (ad : Option Addr) (l : List Gr) : Prop := ∀ (k : Nat) (x : Gr), l[k]? = some x → ∃ b off a c, ad = some ⟨b, off, none⟩ ∧ b < W.heap.size ∧ W.cell? ⟨b, off + k * 4, none⟩ = some (.int .i64 x.1) ∧ W.cell? ⟨b, off + k * 4 + 1, none⟩ = some (.int .i64 x.2.1) ∧ W.cell? ⟨b, off + k * 4 + 2, none⟩ = some (.int .i64 x.2.2.1) ∧ W.cell? ⟨b, off + k * 4 + 3, none⟩ = some (.slice a x.2.2.2.length c) ∧ RdB W a x.2.2.2
theorem RdG.carry {W W' : World} {ad : Option Addr} {l : List Gr} (h : RdG W ad l) (hb : Below W.heap.size W W') : RdG W' ad l := fun k x hk => by
  obtain ⟨b, off, a, c, h1, h2, h3, h4, h5, h6, h7⟩ := h k x hk
  exact ⟨b, off, a, c, h1, Nat.lt_of_lt_of_le h2 hb.size, (hb.cell (p := ⟨b, _, none⟩) h2).trans h3, (hb.cell (p := ⟨b, _, none⟩) h2).trans h4, (hb.cell (p := ⟨b, _, none⟩) h2).trans h5, (hb.cell (p := ⟨b, _, none⟩) h2).trans h6, h7.carry hb⟩
theorem Gs.rd {W : World} {B D : Nat} {ad : Option Addr} {c : Nat} {l : List Gr} {av : List (Option Addr × Nat)} (h : Gs W B D (.slice ad l.length c) l av) : RdG W ad l := fun k x hk => by
  have hlt := (List.getElem?_eq_some_iff.1 hk).1
  obtain ⟨a, ha⟩ : ∃ a, av[k]? = some a := ⟨_, List.getElem?_eq_getElem (by rw [h.len]; exact hlt)⟩
  obtain ⟨c0, c1, c2, c3⟩ := flG_get l av k x a hk ha
  rcases own_form h.row with ⟨_, e⟩ | ⟨g, cap, e, _, hg, _⟩
  · omega
  · simp only [Value.slice.injEq] at e
    obtain ⟨rfl, _, rfl⟩ := e
    refine ⟨g, 0, a.1, a.2, rfl, hg, ?_, ?_, ?_, ?_, (RdY.own (h.dat k x a hk ha)).rd⟩
    · rw [Nat.zero_add]; exact (h.row.cellAt _ (by omega)).trans c0
    · rw [Nat.zero_add]; exact (h.row.cellAt _ (by omega)).trans c1
    · rw [Nat.zero_add]; exact (h.row.cellAt _ (by omega)).trans c2
    · rw [Nat.zero_add]; exact (h.row.cellAt _ (by omega)).trans c3
theorem idx_G (g off n cap k : Nat) (h : k < n) (w : World) : (Instr.indexAt 43 (.slice (some ⟨g, off, none⟩) n cap) (.int .i64 (k : Int))).run Tryz.prog w = .ok (.pointer (some ⟨g, off + k * 4, none⟩)) w := by
  have h1 : (k : Int) < (n : Int) := by omega
  go_simp
theorem load_G {V : World} {b o : Nat} {x : Gr} {a : Option Addr} {c : Nat} (h0 : V.cell? ⟨b, o, none⟩ = some (.int .i64 x.1)) (h1 : V.cell? ⟨b, o + 1, none⟩ = some (.int .i64 x.2.1)) (h2 : V.cell? ⟨b, o + 2, none⟩ = some (.int .i64 x.2.2.1)) (h3 : V.cell? ⟨b, o + 3, none⟩ = some (.slice a x.2.2.2.length c)) : (Instr.loadAt 62 (.pointer (some ⟨b, o, none⟩))).run Tryz.prog V = .ok (gV x a c) V := by
  unfold gV
  go_simp
set_option maxHeartbeats 1000000 in
set_option maxRecDepth 100000 in
theorem sameBag_yes (ad ad' : Option Addr) (cap cap' : Nat) (l : List Gr) (w : World) (h : RdG w ad l) (h' : RdG w ad' l) (hl : l.length ≤ 4611686018427387904) (hd : ∀ x ∈ l, x.2.2.2.length ≤ 1024) : Calls Tryz.prog 29 #[.slice ad l.length cap, .slice ad' l.length cap'] w fun e w' => e = .returned (.bool true) ∧ Below w.heap.size w w' := by
  have hmx : Tryz.prog.follows .mixedOrders = true := by kernel_rfl
  go_enter Tryz.func29, Tryz.ntmps29
  go_wp2
  go_loopw [5] (fun c wz => ∃ k : Nat, c = .int .i64 k ∧ k ≤ l.length ∧ Below w.heap.size w wz) (fun c _ => l.length - vnat c)
  case atStart => exact ⟨0, rfl, Nat.zero_le _, Below.refl _ _⟩
  case round =>
    obtain ⟨k, rfl, hk, hbw⟩ := hrel
    by_cases hkl : k < l.length
    · have hki : (k : Int) < (l.length : Int) := by omega
      obtain ⟨x, hx⟩ : ∃ x, l[k]? = some x := ⟨_, List.getElem?_eq_getElem hkl⟩
      have hfew := hd x (List.mem_of_getElem? hx)
      obtain ⟨g, off, a, c, rfl, hgl, c0, c1, c2, c3, hr⟩ := h k x hx
      obtain ⟨g', off', a', c', rfl, hgl', d0, d1, d2, d3, hr'⟩ := h' k x hx
      go_wp2
      refine wp_region_any hmx ?_
      refine wpAny_pure (fun i__ => ([(.slice (some ⟨g, off, none⟩) l.length cap), (.int .i64 (k : Int)), (.pointer (some ⟨g, off + k * 4, none⟩)), (gV x a c), (.slice (some ⟨g', off', none⟩) l.length cap'), (.int .i64 (k : Int)), (.pointer (some ⟨g', off' + k * 4, none⟩)), (gV x a' c'), (.bool true), (.bool false)] : List Value).getD i__ undef) (fun W => Below w.heap.size w W) (by kernel_rfl) hbw.drew ?_ ?_
      · refine (stepsFrom_cons ?_ (stepsFrom_cons ?_ (stepsFrom_cons ?_ (stepsFrom_cons ?_ (stepsFrom_cons ?_ (stepsFrom_cons ?_ (stepsFrom_cons ?_ (stepsFrom_cons ?_ (stepsFrom_cons ?_ (stepsFrom_cons ?_ trivial))))))))))
        · exact step_move rfl trivial _ rfl (by kernel_rfl)
        · exact step_move rfl trivial _ rfl (by kernel_rfl)
        · exact step_indexAddr rfl trivial _ _ _ _ _ rfl rfl rfl (fun w hw => idx_G g off _ _ k hkl w)
        · exact step_load rfl trivial _ _ _ rfl rfl (fun w hw => load_G ((hw.cell (p := ⟨g, _, none⟩) hgl).trans c0) ((hw.cell (p := ⟨g, _, none⟩) hgl).trans c1) ((hw.cell (p := ⟨g, _, none⟩) hgl).trans c2) ((hw.cell (p := ⟨g, _, none⟩) hgl).trans c3))
        · exact step_move rfl trivial _ rfl (by kernel_rfl)
        · exact step_move rfl trivial _ rfl (by kernel_rfl)
        · exact step_indexAddr rfl trivial _ _ _ _ _ rfl rfl rfl (fun w hw => idx_G g' off' _ _ k hkl w)
        · exact step_load rfl trivial _ _ _ rfl rfl (fun w hw => load_G ((hw.cell (p := ⟨g', _, none⟩) hgl').trans d0) ((hw.cell (p := ⟨g', _, none⟩) hgl').trans d1) ((hw.cell (p := ⟨g', _, none⟩) hgl').trans d2) ((hw.cell (p := ⟨g', _, none⟩) hgl').trans d3))
        · exact step_call rfl trivial 18 _ _ [(gV x a c), (gV x a' c')] rfl (by kernel_rfl) (enters_of Tryz.func18 (by kernel_rfl) rfl) (fun v hw => (sameG_yes x a a' c c' v (hr.carry hw) (hr'.carry hw) (by omega)).mono (by rintro e w' ⟨rfl, hb⟩; exact ⟨rfl, bel2 hw hb⟩))
        · exact step_unOp rfl trivial _ _ _ _ rfl rfl (fun w hw => un_not true w)
      intro W hW
      first | refine hK _ _ ?_ | refine (‹∀ (a : Act) (w : World), Code.wp Tryz.prog _ _ a w → _›) _ _ ?_ | skip
      simp only [finL, List.getD_cons_zero, List.getD_cons_succ, Nat.zero_add, Nat.reduceAdd, List.setIfInBounds_toArray, List.set_cons_zero, List.set_cons_succ]
      go_wp2
      go_roundw
      case rel => exact ⟨k + 1, by simp, by omega, hW⟩
      case measure => simp [vnat]; omega
    · have hkk : k = l.length := by omega
      subst hkk
      have hki : ¬ ((l.length : Int) < (l.length : Int)) := by omega
      go_wp2
      go_ret
      exact ⟨rfl, hbw⟩
end Go.Proofs.YtjfbnikbmadgkaaGreat
