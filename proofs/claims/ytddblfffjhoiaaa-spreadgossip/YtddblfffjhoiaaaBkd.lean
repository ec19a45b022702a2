/- slices.Equal of notices, Same, New, alive: what they answer. -/
import Derived.Test.YtddblfffjhoiaaaBkc
namespace Go.Proofs.Ytddblfffjhoiaaa
open Go.RowKit Go.Shelf

theorem bin_neqn {x y : Operand} {w : World} (o t k o' t' k' : Int) : binRun Try.prog .neq 32 x y (nt o t k) (nt o' t' k') w = .ok (.bool (!decide ((o, t, k) = (o', t', k')))) w := by
  unfold binRun nt
  by_cases h : o = o'
  · by_cases h1 : t = t'
    · by_cases h2 : k = k' <;> go_simp
    · go_simp
  · go_simp
theorem take_eq_step {α : Type} {l m : List α} {k : Nat} {x y : α} (h : l.take k = m.take k) (hx : l[k]? = some x) (hy : m[k]? = some y) (e : x = y) : l.take (k + 1) = m.take (k + 1) := by
  rw [List.take_add_one, List.take_add_one, h, hx, hy, e]
theorem take_ne {α : Type} {l m : List α} {k : Nat} {x y : α} (hx : l[k]? = some x) (hy : m[k]? = some y) (e : x ≠ y) : l ≠ m := fun q => by
  subst q
  rw [hx] at hy
  exact e (Option.some.inj hy)
structure JQ (w : World) (ad ad2 : Option Addr) (l m : List N3) (W : World) : Prop where
  one : RdN W ad l
  two : RdN W ad2 m
  below : Below w.heap.size w W
theorem JQ.carry {w W V : World} {ad ad2 : Option Addr} {l m : List N3} (h : JQ w ad ad2 l m W) (hb : Below W.heap.size W V) : JQ w ad ad2 l m V := ⟨h.one.carry hb, h.two.carry hb, bel2 h.below hb⟩
set_option maxHeartbeats 4000000 in
set_option maxRecDepth 100000 in
theorem equal_any (ad ad2 : Option Addr) (cap cap2 : Nat) (l m : List N3) (w : World) (h : RdN w ad l) (h2 : RdN w ad2 m) (hl : l.length ≤ 6000000000000) : Calls Try.prog 33 #[.slice ad l.length cap, .slice ad2 m.length cap2] w fun e w' => e = .returned (.bool (decide (l = m))) ∧ Below w.heap.size w w' := by
  have hmx : Try.prog.follows .mixedOrders = true := by kernel_rfl
  obtain ⟨R, hR⟩ : ∃ R, decide (l = m) = R := ⟨_, rfl⟩
  rw [hR]
  obtain ⟨n, hn⟩ : ∃ n, l.length = n := ⟨_, rfl⟩
  obtain ⟨n2, hn2⟩ : ∃ n, m.length = n := ⟨_, rfl⟩
  rw [hn, hn2]
  have HR : Hid (decide (l = m) = R) := hR
  clear hR
  by_cases e : n = n2
  · subst e
    have HN : Hid (l.length = n) := hn
    have HN2 : Hid (m.length = n) := hn2
    rw [hn] at hl
    clear hn hn2
    go_enter Try.func33, Try.ntmps33
    go_wp2
    go_loopw [13] (fun i wz => ∃ (k : Nat), i = .int .i64 k ∧ k ≤ n ∧ Hid (l.take k = m.take k) ∧ JQ w ad ad2 l m wz) (fun i _ => n - vnatR i)
    case atStart => exact ⟨0, rfl, Nat.zero_le _, rfl, h, h2, Below.refl _ _⟩
    case round =>
      obtain ⟨k, rfl, hk, HK, hj⟩ := hrel
      by_cases hkl : k < n
      · have hkl1 : k < l.length := by rw [HN.out]; exact hkl
        have hkl2 : k < m.length := by rw [HN2.out]; exact hkl
        have hki : (k : Int) < (n : Int) := by omega
        obtain ⟨⟨o, t, q⟩, hx⟩ : ∃ x, l[k]? = some x := ⟨_, List.getElem?_eq_getElem hkl1⟩
        obtain ⟨⟨o', t', q'⟩, hy⟩ : ∃ x, m[k]? = some x := ⟨_, List.getElem?_eq_getElem hkl2⟩
        obtain ⟨b, off, e1, hbl, hat⟩ := hj.one (fun e => by rw [e] at hkl1; simp at hkl1)
        obtain ⟨b2, off2, e2, hbl2, hat2⟩ := hj.two (fun e => by rw [e] at hkl2; simp at hkl2)
        subst e1 e2
        clear hat hat2 hkl1 hkl2
        have hx' : Hid (l[k]? = some (o, t, q)) := hx
        have hy' : Hid (m[k]? = some (o', t', q')) := hy
        have hat : ∀ W, JQ w (some ⟨b, off, none⟩) (some ⟨b2, off2, none⟩) l m W → NtsAt W b off l ∧ NtsAt W b2 off2 m := fun W hW => by
          obtain ⟨c, cf, e1, _, h3⟩ := hW.one (fun e => by rw [e] at hx; simp at hx)
          obtain ⟨d, df, e2, _, h4⟩ := hW.two (fun e => by rw [e] at hy; simp at hy)
          cases e1
          cases e2
          exact ⟨h3, h4⟩
        have HAT : Hid (∀ W, JQ w (some ⟨b, off, none⟩) (some ⟨b2, off2, none⟩) l m W → NtsAt W b off l ∧ NtsAt W b2 off2 m) := hat
        clear hat hx hy
        go_wp2
        rename_i Q0 K0 hK
        refine wp_region_any hmx ?_
        refine wpAny_pure (fun i__ => ([(.slice (some ⟨b, off, none⟩) n cap), (.int .i64 (k : Int)), (.pointer (some ⟨b, off + k * 3, none⟩)), (nt o t q), (.slice (some ⟨b2, off2, none⟩) n cap2), (.int .i64 (k : Int)), (.pointer (some ⟨b2, off2 + k * 3, none⟩)), (nt o' t' q'), (.bool (!decide ((o, t, q) = (o', t', q'))))] : List Value).getD i__ undef) (fun W => JQ w (some ⟨b, off, none⟩) (some ⟨b2, off2, none⟩) l m W) (by kernel_rfl) (hj.carry (Below.refl _ _).drew) ?_ ?_
        · refine (stepsFrom_cons ?_ (stepsFrom_cons ?_ (stepsFrom_cons ?_ (stepsFrom_cons ?_ (stepsFrom_cons ?_ (stepsFrom_cons ?_ (stepsFrom_cons ?_ (stepsFrom_cons ?_ (stepsFrom_cons ?_ trivial)))))))))
          · exact step_move rfl trivial _ rfl (by kernel_rfl)
          · exact step_move rfl trivial _ rfl (by kernel_rfl)
          · exact step_indexAddr rfl trivial _ _ _ _ _ rfl rfl rfl (fun w hw => idx_n b off _ _ k hkl w)
          · exact step_load rfl trivial _ _ _ rfl rfl (fun w hw => load_at (HAT.out w hw).1 hx'.out)
          · exact step_move rfl trivial _ rfl (by kernel_rfl)
          · exact step_move rfl trivial _ rfl (by kernel_rfl)
          · exact step_indexAddr rfl trivial _ _ _ _ _ rfl rfl rfl (fun w hw => idx_n b2 off2 _ _ k hkl w)
          · exact step_load rfl trivial _ _ _ rfl rfl (fun w hw => load_at (HAT.out w hw).2 hy'.out)
          · exact step_binOp rfl trivial _ _ _ _ _ _ _ rfl rfl rfl (fun w hw => bin_neqn _ _ _ _ _ _)
        intro W hW
        first | refine hK _ _ ?_ | refine (‹∀ (a : Act) (w : World), Code.wp Try.prog _ _ a w → _›) _ _ ?_
        simp only [finL, List.getD_cons_zero, List.getD_cons_succ, Nat.zero_add, Nat.reduceAdd, List.setIfInBounds_toArray, List.set_cons_zero, List.set_cons_succ]
        clear hK
        by_cases hq : (o, t, q) = (o', t', q')
        · have HS : Hid (l.take (k + 1) = m.take (k + 1)) := take_eq_step HK.out hx'.out hy'.out hq
          rw [decide_eq_true hq]
          clear hq
          go_wp2
          go_roundw
          case rel => exact ⟨k + 1, by simp, by omega, HS, hW⟩
          case measure => simp [vnatR]; omega
        · have HF : Hid (R = false) := by
            show R = false
            rw [← HR.out]
            exact decide_eq_false (take_ne hx'.out hy'.out hq)
          rw [decide_eq_false hq]
          clear hq
          go_wp2
          go_ret
          rw [HF.out]
          exact ⟨rfl, hW.below⟩
      · have hkk : k = n := by omega
        subst hkk
        have HF : Hid (R = true) := by
          show R = true
          rw [← HR.out]
          have := HK.out
          rw [List.take_of_length_le (by rw [HN.out]; exact Nat.le_refl _), List.take_of_length_le (by rw [HN2.out]; exact Nat.le_refl _)] at this
          exact decide_eq_true this
        go_wp2
        go_ret
        rw [HF.out]
        exact ⟨rfl, hj.below⟩
  · have HF : Hid (R = false) := by
      show R = false
      rw [← HR.out]
      exact decide_eq_false (fun q => e (by rw [← hn, ← hn2, q]))
    have e' : ((n : Int) != (n2 : Int)) = true := by simp; omega
    clear hn hn2 HR
    go_enter Try.func33, Try.ntmps33
    go_wp2
    go_ret
    rw [HF.out]
    exact ⟨rfl, Below.refl _ _⟩
theorem Bk.rd {W : World} {p g : Nat} {l : List N3} (h : Bk W p g l) : RdN W (some ⟨g, 0, none⟩) l := fun _ => ⟨g, 0, rfl, h.glt, h.nts⟩
set_option maxHeartbeats 1000000 in
theorem bsame_any {w : World} {p g p2 g2 : Nat} {l m : List N3} (h : Bk w p g l) (h2 : Bk w p2 g2 m) (hl : l.length ≤ 6000000000000) : Calls Try.prog 14 #[.pointer (some ⟨p, 0, none⟩), .pointer (some ⟨p2, 0, none⟩)] w fun e w' => e = .returned (.bool (decide (l = m))) ∧ Below w.heap.size w w' := by
  have k1 := kept_any h
  have HE : Hid (∀ W, Below w.heap.size w W → Calls Try.prog 33 #[.slice (some ⟨g, 0, none⟩) l.length l.length, .slice (some ⟨g2, 0, none⟩) m.length m.length] W fun e w' => e = .returned (.bool (decide (l = m))) ∧ Below W.heap.size W w') := fun W hb => equal_any _ _ _ _ l m W (h.carry hb).rd (h2.carry hb).rd hl
  have HK : Hid (∀ W, Below w.heap.size w W → Calls Try.prog 34 #[.pointer (some ⟨p2, 0, none⟩)] W fun e w' => e = .returned (.slice (some ⟨g2, 0, none⟩) m.length m.length) ∧ Below W.heap.size W w') := fun W hb => kept_any (h2.carry hb)
  generalize decide (l = m) = R at *
  clear hl
  go_enter Try.func14, Try.ntmps14
  go_wp2_with (first | (go_at_call 34; first | ((with_reducible refine k1.mono ?_); rintro e u1 ⟨rfl, hb1⟩; clear k1; have k2 := HK.out u1 hb1) | ((with_reducible refine k2.mono ?_); rintro e u2 ⟨rfl, hb2⟩; have k3 := HE.out u2 (bel2 hb1 hb2))) | (go_at_call 33; (with_reducible refine k3.mono ?_); rintro e u3 ⟨rfl, hb3⟩))
  go_ret
  exact ⟨rfl, bel2 (bel2 hb1 hb2) hb3⟩
end Go.Proofs.Ytddblfffjhoiaaa
