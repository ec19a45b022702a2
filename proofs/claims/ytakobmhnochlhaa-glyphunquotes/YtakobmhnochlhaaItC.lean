/- The word of the function of glyph.each, as an iterator over an iterator: at every text of at most 2^63 - 1 bytes. -/
import Derived.Test.YtakobmhnochlhaaItB
namespace Go.Proofs.Ytakobmhnochlhaa
open Go.RowKit Go.Shelf
attribute [local go_sem] Oper.semAt_some

set_option maxHeartbeats 4000000 in
theorem each1_seq (s : ByteArray) (hs : s.size ≤ maxLen) (bx : Nat) (w : World) (hbx : Boxed w bx 9 (.string s)) :
    SeqM Try.prog 30 #[.pointer (some ⟨bx, 0, none⟩)] (fun p => #[chV s p]) bx 5 (starts s) w := by
  intro l J Jx W hW hJ hJx hY h0
  have hbW : Boxed W bx 9 (.string s) := (hW.block bx hbx.lt).trans hbx
  have hc := hbW.cell
  have hlt := hbW.lt
  have hc1 := (hbW.alloc (.cells #[.func (.yield l) #[] #[]] 64)).cell
  refine callsIn_of_wp_marks Try.func30 rfl trivial ?_ rfl
  simp only [Try.ntmps30, List.size_toArray, List.length_cons, List.length_nil, Nat.reduceAdd, Nat.reduceSub, Array.replicate_succ, Array.replicate_zero, List.push_toArray, List.append_toArray, List.nil_append, List.cons_append]
  gi_wp2_with (refine ⟨trivial, rfl, ?_⟩; gi_at_call 31; refine (callsIn_wide.2 (all_any s _)).mono ?_; rintro e w' ⟨rfl, rfl⟩)
  have hbY := Boxed.new W 64 (.func (.yield l) #[] #[])
  have hbA := Boxed.new (W.alloc (.cells #[.func (.yield l) #[] #[]] 64)) 9 (.string s)
  rw [World.size_alloc] at hbA
  have hI0 := hJ.alloc (.cells #[.string s] 9) (hJ.alloc (.cells #[.func (.yield l) #[] #[]] 64) h0)
  refine wp_range (kb := 0) (gf := 35) (lb := #[.pointer (some ⟨W.heap.size + 1, 0, none⟩)]) rfl (enters_of Try.func35 (by kernel_rfl) rfl)
    (all1_seq s (W.heap.size + 1) _ hbA) (by simp) (fun _ => rfl)
    (fun pre Wc => J pre Wc ∧ Boxed Wc W.heap.size 64 (.func (.yield l) #[] #[]) ∧ Boxed Wc bx 9 (.string s))
    (fun c pre Wc => c = .ret ∧ Jx pre Wc)
    ((ownFrom_le hJ (by simp; omega)).and (OwnFrom.and ((boxed_own _ _ _).from _) ((boxed_own _ _ _).from _)))
    (fun c => OwnFrom.and (ownFrom_pure _ (fun _ => c = .ret)) (ownFrom_le hJx (by simp; omega)))
    ⟨hI0, hbY.alloc _, (hbW.alloc _).alloc _⟩
    (fun x a' _ => a' = { tmps := #[.func (.yield l) #[] #[], .pointer (some ⟨bx, 0, none⟩), .pointer (some ⟨W.heap.size, 0, none⟩), .int .i64 x, .int .i32 (rn s x), .string s, .func (.func 35) #[] #[.pointer (some ⟨W.heap.size + 1, 0, none⟩)], .int .i64 x, .int .i32 (rn s x), undef, undef, undef, undef, undef, undef, undef], defers := [] })
    (fun _ _ _ _ _ _ hs _ _ => hs) ?assign ?body ?done ?stop
  case assign =>
    rintro l2 pre x Wc K hi hsz hK
    simp only [atV]
    gi_wp2
    exact hK _ _ (Kept.refl _ _ _ _) hi rfl
  case body =>
    rintro l2 pre x a' Wc ⟨hj, hby, hbs⟩ rfl hsz hpr
    have hx : x < s.size := starts_lt s x (hpr.subset (by simp))
    have hsz' : W.heap.size + 5 ≤ Wc.heap.size := by simp at hsz; omega
    have HR := CallsIn.inRound l2 ((callsIn_wide (n := 0)).2 (round1 hJ hs hY hj hby hbs hx hsz' hpr Wc.drew ⟨rfl, rfl, rfl, rfl⟩))
    have hcy := hby.cell
    have hcs := hbs.cell
    have hmx : Try.prog.follows .mixedOrders = true := by kernel_rfl
    have fin : ∀ b W', Rnd J Jx bx W.heap.size Wc pre x b W' → Kept bx W.heap.size 5 Wc W' ∧ (b = true → J (pre ++ [x]) W') ∧ (b = false → Jx (pre ++ [x]) W') := fun _ _ h => h
    generalize Rnd J Jx bx W.heap.size Wc pre x = R at HR fin
    gi_wp2
    refine wpIn_mono (Q := fun e a W' => e = .normal ∧ ∃ b : Bool, a = { tmps := #[.func (.yield l) #[] #[], .pointer (some ⟨bx, 0, none⟩), .pointer (some ⟨W.heap.size, 0, none⟩), .int .i64 x, .int .i32 (rn s x), .string s, .func (.func 35) #[] #[.pointer (some ⟨W.heap.size + 1, 0, none⟩)], .int .i64 x, .int .i32 (rn s x), .func (.yield l) #[] #[], .string s, .int .i64 x, .int .i32 (rn s x), chV s x, .bool b, .bool (!b)], defers := [] } ∧ R b W') ?_ ?_
    · rename_i Q1 K1 hK1
      clear hK1 K1 fin hY hJ hJx hW h0 hbW hc hlt hc1 hbY hbA hI0 hj hby hbs hx hsz hpr hsz' hs hbx
      clear Q1
      gi_region_with_o (first
      | (with_reducible (refine And.intro wdep ?_); refine RoundIn.mono (round_in l2 hR) ?_; clear hR; rintro e W3 ⟨b, rfl, hjb⟩)
      | (with_reducible (refine And.intro (wfn _) (And.intro wdep ?_)); gi_at_call 32; refine HR.mono ?_; clear HR; rintro e w1 ⟨rfl, hcy1, fn, tmps, assign, body, hyy, hR⟩))
      all_goals exact ⟨rfl, b, rfl, hjb⟩
    · rintro e a1 W3 ⟨rfl, b, rfl, hR⟩
      obtain ⟨hkp, hj1, hj2⟩ := fin b W3 hR
      have hk3 : Kept (W.heap.size + 1) (W.heap.size + 1 + 1) 3 Wc W3 := ⟨hkp.size, hkp.rng _ (by omega) (by omega), fun k h1 h2 => hkp.rng k (by omega) (by omega)⟩
      cases b
      · have hjf := hj2 rfl
        clear hj1 hj2
        gi_wp2
        exact ⟨by first | exact hk3 | simpa using hk3, rfl, hjf⟩
      · have hjt := hj1 rfl
        clear hj1 hj2
        gi_wp2
        exact ⟨by first | exact hk3 | simpa using hk3, hjt, (hkp.rng _ (Nat.le_refl _) (by omega)).trans hby, hkp.box.trans hbs⟩
  case done =>
    rintro Wc ⟨hj, _, _⟩ hK
    gi_wp2
    refine ⟨by simp, .inl ⟨_, _, rfl, run_takeDeferred hK, ?_⟩⟩
    exact ⟨_, results_none rfl _ _ _, ⟨_, rfl⟩, .inl (hJ.putObj _ hj (by simp; omega) hK rfl)⟩
  case stop =>
    rintro c pre Wc hpr ⟨rfl, hjx⟩ hK
    gi_wp2
    refine ⟨by simp, .inl ⟨_, _, rfl, run_takeDeferred hK, ?_⟩⟩
    exact ⟨_, results_none rfl _ _ _, ⟨_, rfl⟩, .inr ⟨pre, hpr, hJx.putObj _ hjx (by simp; omega) hK rfl⟩⟩
end Go.Proofs.Ytakobmhnochlhaa
