/- The document's Decode: what it answers. -/
import Derived.Test.YtjleggnkacmbbaaRta
import Derived.Test.YtjleggnkacmbbaaDkg
import Derived.Test.YtjleggnkacmbbaaNqk
namespace Go.Proofs.Ytjleggnkacmbbaa
open Go.RowKit Go.Shelf Go.Lib

section
variable {l : List Nat}
theorem val_pre {X : List Nat} (hb : Byt X) (hl : X.length ≤ 5) (k : Nat) : valB 0 (X.take k) < 36028797018963968 := by
  have h1 := valB_lt (X.take k) (hb.take k)
  have h2 : 2 ^ (8 * (X.take k).length) ≤ 2 ^ (8 * 5) := Nat.pow_le_pow_right (by decide) (by rw [List.length_take]; omega)
  omega
theorem eight (hl : l.length = 64) : ∃ y Y, (l.drop 4).take 8 = y :: Y ∧ Y.length = 7 ∧ l[4]? = some y := by
  have h4 : 4 < l.length := by omega
  refine ⟨l[4], (l.drop 5).take 7, ?_, ?_, List.getElem?_eq_getElem h4⟩
  · rw [List.drop_eq_getElem_cons h4]
    rfl
  · rw [List.length_take, List.length_drop]
    omega
theorem val_eight {y : Nat} {Y : List Nat} (hb : Byt (y :: Y)) (hY : Y.length = 7) : valB 0 (y :: Y) = y * 72057594037927936 + valB 0 Y ∧ valB 0 Y < 72057594037927936 := by
  have h1 := valB_lt Y hb.tail
  rw [hY] at h1
  have h2 := valB_acc Y (0 * 256 + y)
  rw [hY] at h2
  refine ⟨?_, h1⟩
  show valB (0 * 256 + y) Y = _
  rw [h2, Nat.zero_mul, Nat.zero_add]
theorem say_top (hl : l.length = 64) (hB : Byt l) {y : Nat} (h : l[4]? = some y) (hy : y ≠ 0) : say l = none := by
  obtain ⟨y', Y, e1, e2, e3⟩ := eight hl
  rw [h] at e3
  cases e3
  have hb : Byt (y :: Y) := by rw [← e1]; exact (hB.drop 4).take 8
  obtain ⟨e4, e5⟩ := val_eight hb e2
  have hy8 := hb.head
  unfold say
  rw [if_neg]
  rintro ⟨⟨_, q1, q2⟩, _⟩
  unfold rdS at q1 q2
  rw [e1, e4, IntKind.wrap_i64] at q1 q2
  omega
theorem rdS_low (hl : l.length = 64) (hB : Byt l) (h : l[4]? = some 0) : rdS l = ((valB 0 ((l.drop 4).take 8) : Nat) : Int) ∧ ∀ k, k < 8 → valB 0 (((l.drop 4).take 8).take k) < 36028797018963968 := by
  obtain ⟨y', Y, e1, e2, e3⟩ := eight hl
  rw [h] at e3
  cases e3
  have hb : Byt (0 :: Y) := by rw [← e1]; exact (hB.drop 4).take 8
  obtain ⟨e4, e5⟩ := val_eight hb e2
  refine ⟨?_, fun k hk => ?_⟩
  · unfold rdS
    rw [e1, e4]
    exact i64_id _ (by omega) (by omega)
  · rw [e1]
    cases k with
    | zero => simp [valB]
    | succ k =>
      rw [List.take_succ_cons]
      show valB (0 * 256 + 0) (Y.take k) < _
      have h1 := valB_lt (Y.take k) (hb.tail.take k)
      have h2 : 2 ^ (8 * (Y.take k).length) ≤ 2 ^ (8 * 6) := Nat.pow_le_pow_right (by decide) (by rw [List.length_take]; omega)
      show valB 0 (Y.take k) < _
      omega
end
set_option maxHeartbeats 4000000 in
set_option maxRecDepth 100000 in
theorem rdec_len (ad : Option Addr) (cap n : Nat) (w : World) (hn : ¬ n = 64) : Calls Try.prog 67 #[.slice ad n cap] w fun e w' => e = .returned (.tuple #[.agg r0A, .int .i64 0, .int .i64 102]) ∧ Below w.heap.size w w' := by
  have hni : ¬ (n : Int) = 64 := by omega
  obtain ⟨w1, hw1⟩ : ∃ w1, w.alloc (.cells #[.int .i64 0, .int .i64 0, .int .i64 0] 36) = w1 := ⟨_, rfl⟩
  have hb1 : Below w.heap.size w w1 := by rw [← hw1]; exact al1' _ _
  have hg1 : w1.heap[w.heap.size]? = some (.cells #[.int .i64 0, .int .i64 0, .int .i64 0] 36 (0, 0)) := by rw [← hw1]; exact new_at rfl
  go_enter Try.func67, Try.ntmps67
  go_wp2_with (refine wpList_store_row rfl 36 (.tmp 2) (.tmp 13) rfl w.heap.size #[.int .i64 0, .int .i64 0, .int .i64 0] rfl rfl 36 _ hg1 infoR rfl (by simp [Value.oneCell']) ?_; obtain ⟨v, hv⟩ : ∃ v, w1.setRow w.heap.size #[.int .i64 0, .int .i64 0, .int .i64 0] = v := ⟨_, rfl⟩; have HV : Hid (v.heap[w.heap.size]? = some (.cells #[.int .i64 0, .int .i64 0, .int .i64 0] 36 (0, 0))) := (by rw [← hv]; exact setRow_heap _ _ _ _ _ _ hg1); have HB : Hid (Below w.heap.size w v) := (by rw [← hv]; exact below_setRow hb1 (Nat.le_refl _) _); rw [hv])
  (try simp only [Exit.inBlock, Exit.then])
  exact retC3 rfl rfl rfl rfl rfl HV.out undR infoR ⟨rfl, HB.out⟩
/-- While the document reads a slot's bytes. -/
def JD (w : World) (r : Rec) (V : World) : Prop := V.heap[w.heap.size]? = some (.cells #[.int .i64 0, .int .i64 0, .int .i64 0] 36 (0, 0)) ∧ V.heap[w.heap.size + 1]? = some (.cells #[.int .i64 r.li, .int .i64 r.ro, .int .i64 r.ta] 36 (0, 0)) ∧ Below w.heap.size w V
theorem JD.carry {w V V' : World} {r : Rec} (h : JD w r V) (hb : Below V.heap.size V V') : JD w r V' := ⟨(hb.block _ (lt_at h.1)).trans h.1, (hb.block _ (lt_at h.2.1)).trans h.2.1, bel2 h.2.2 hb⟩
set_option maxHeartbeats 8000000 in
set_option maxRecDepth 100000 in
theorem rdec_any (ad : Option Addr) (cap : Nat) (l : List Nat) (w : World) (h : RdB w ad l) (hl : l.length = 64) (hB : Byt l) : Calls Try.prog 67 #[.slice ad 64 cap] w fun e w' => e = .returned (decV (say l)) ∧ Below w.heap.size w w' := by
  have hmx : Try.prog.follows .mixedOrders = true := by kernel_rfl
  obtain ⟨w1, hw1⟩ : ∃ w1, w.alloc (.cells #[.int .i64 0, .int .i64 0, .int .i64 0] 36) = w1 := ⟨_, rfl⟩
  have hb1 : Below w.heap.size w w1 := by rw [← hw1]; exact al1' _ _
  have hg1 : w1.heap[w.heap.size]? = some (.cells #[.int .i64 0, .int .i64 0, .int .i64 0] 36 (0, 0)) := by rw [← hw1]; exact new_at rfl
  have hs1 : w1.heap.size = w.heap.size + 1 := by rw [← hw1]; simp
  have h1 := h.carry hb1
  have n1 : Calls Try.prog 72 #[.slice ad 64 cap, .int .i64 12, .int .i64 4] w1 (fun e w' => e = .returned (.int .i64 (rdR l).li) ∧ w' = w1) := rvalue_any ad cap 12 4 l w1 h1 hB hl (by omega) (by omega) (fun k _ => val_pre ((hB.drop _).take _) (by rw [List.length_take]; omega) k)
  have n2 : Calls Try.prog 72 #[.slice ad 64 cap, .int .i64 16, .int .i64 5] w1 (fun e w' => e = .returned (.int .i64 (rdR l).ro) ∧ w' = w1) := rvalue_any ad cap 16 5 l w1 h1 hB hl (by omega) (by omega) (fun k _ => val_pre ((hB.drop _).take _) (by rw [List.length_take]; omega) k)
  have n3 : Calls Try.prog 72 #[.slice ad 64 cap, .int .i64 44, .int .i64 3] w1 (fun e w' => e = .returned (.int .i64 (rdR l).ta) ∧ w' = w1) := rvalue_any ad cap 44 3 l w1 h1 hB hl (by omega) (by omega) (fun k _ => val_pre ((hB.drop _).take _) (by rw [List.length_take]; omega) k)
  obtain ⟨r, hr⟩ : ∃ r, rdR l = r := ⟨_, rfl⟩
  rw [hr] at n1 n2 n3
  obtain ⟨w2, hw2⟩ : ∃ w2, w1.alloc (.cells #[.int .i64 r.li, .int .i64 r.ro, .int .i64 r.ta] 36) = w2 := ⟨_, rfl⟩
  have hj2 : JD w r w2 := by
    rw [← hw2]
    exact ⟨old_at hg1, by rw [← hs1]; exact new_at rfl, bel2 hb1 (al1' _ _)⟩
  obtain ⟨y, hy⟩ := get_lt (l := l) (k := 4) (by omega)
  have h2 := h.carry hj2.2.2
  obtain ⟨bb, off, e1, hbl, hat⟩ := h2 (fun e => by subst e; simp at hl)
  subst e1
  have c4 := hat 4 y hy
  by_cases hy0 : y = 0
  case neg =>
    have hsn := say_top hl hB hy hy0
    have hyi : ¬ (y : Int) = 0 := by omega
    rw [hsn]
    clear hat h h1 h2
    go_enter Try.func67, Try.ntmps67
    go_wp2_with (first | (go_at_call 72; (with_reducible refine n1.mono ?_); rintro e v ⟨rfl, hv⟩; obtain rfl := hv.symm) | (go_at_call 72; (with_reducible refine n2.mono ?_); rintro e v ⟨rfl, hv⟩; obtain rfl := hv.symm) | (go_at_call 72; (with_reducible refine n3.mono ?_); rintro e v ⟨rfl, hv⟩; obtain rfl := hv.symm) | (refine wpList_store_row rfl 36 (.tmp 2) (.tmp 25) rfl w.heap.size #[.int .i64 0, .int .i64 0, .int .i64 0] rfl rfl 36 _ hj2.1 infoR rfl (by simp [Value.oneCell']) ?_; obtain ⟨v, hv⟩ : ∃ v, w2.setRow w.heap.size #[.int .i64 0, .int .i64 0, .int .i64 0] = v := ⟨_, rfl⟩; have HV : Hid (v.heap[w.heap.size]? = some (.cells #[.int .i64 0, .int .i64 0, .int .i64 0] 36 (0, 0))) := (by rw [← hv]; exact setRow_heap _ _ _ _ _ _ hj2.1); have HB : Hid (Below w.heap.size w v) := (by rw [← hv]; exact below_setRow hj2.2.2 (Nat.le_refl _) _); rw [hv]))
    (try simp only [Exit.inBlock, Exit.then])
    exact retC3 rfl rfl rfl rfl rfl HV.out undR infoR ⟨rfl, HB.out⟩
  subst hy0
  obtain ⟨hs0, hvs⟩ := rdS_low hl hB hy
  have n4 : Calls Try.prog 72 #[.slice (some ⟨bb, off, none⟩) 64 cap, .int .i64 4, .int .i64 8] w2 (fun e w' => e = .returned (.int .i64 ((valB 0 ((l.drop 4).take 8) : Nat) : Int)) ∧ w' = w2) := rvalue_any _ cap 4 8 l w2 h2 hB hl (by omega) (by omega) hvs
  rw [← hs0] at n4
  obtain ⟨s, hs⟩ : ∃ s, rdS l = s := ⟨_, rfl⟩
  rw [hs] at n4
  have HS : Hid (say l = if Fit r s ∧ slB r s = l then some (r, s) else none) := by show say l = _; rw [← hr, ← hs]; rfl
  have he := rEnc_any r s w2
  unfold rV at he
  clear hs0 hvs hs hr h h1 h2 hy
  by_cases hf : Fit r s
  case neg =>
    have HN : Hid (say l = none) := by show say l = none; rw [HS.out, if_neg (fun q => hf q.1)]
    clear HS hat
    go_enter Try.func67, Try.ntmps67
    go_wp2_with (first | (go_at_call 72; (with_reducible refine n1.mono ?_); rintro e v ⟨rfl, hv⟩; obtain rfl := hv.symm) | (go_at_call 72; (with_reducible refine n2.mono ?_); rintro e v ⟨rfl, hv⟩; obtain rfl := hv.symm) | (go_at_call 72; (with_reducible refine n3.mono ?_); rintro e v ⟨rfl, hv⟩; obtain rfl := hv.symm) | (go_at_call 72; (with_reducible refine n4.mono ?_); rintro e v ⟨rfl, hv⟩; obtain rfl := hv.symm) | (refine wpList_load_row rfl 36 (.tmp 5) rfl (w.heap.size + 1) rfl 36 _ (0, 0) _ hj2.2.1 undR rfl infoR ?_) | (go_at_call 31; (with_reducible refine he.mono ?_); rintro e W3 ⟨-, hno, hu3⟩; obtain rfl := hno hf; have hj3 := hj2.carry hu3) | (refine wpList_store_row rfl 36 (.tmp 2) (.tmp 36) rfl w.heap.size #[.int .i64 0, .int .i64 0, .int .i64 0] rfl rfl 36 _ hj3.1 infoR rfl (by simp [Value.oneCell']) ?_; obtain ⟨v, hv⟩ : ∃ v, W3.setRow w.heap.size #[.int .i64 0, .int .i64 0, .int .i64 0] = v := ⟨_, rfl⟩; have HV : Hid (v.heap[w.heap.size]? = some (.cells #[.int .i64 0, .int .i64 0, .int .i64 0] 36 (0, 0))) := (by rw [← hv]; exact setRow_heap _ _ _ _ _ _ hj3.1); have HB : Hid (Below w.heap.size w v) := (by rw [← hv]; exact below_setRow hj3.2.2 (Nat.le_refl _) _); rw [hv]))
    (try simp only [Exit.inBlock, Exit.then])
    exact retC3 rfl rfl rfl rfl rfl HV.out undR infoR ⟨by rw [HN.out]; rfl, HB.out⟩
  have hSl := slB_len r s
  obtain ⟨S, hS⟩ : ∃ S, slB r s = S := ⟨_, rfl⟩
  rw [hS] at he hSl
  have HS2 : Hid (say l = if S = l then some (r, s) else none) := by
    show say l = _
    rw [HS.out, hS]
    by_cases q : S = l
    · rw [if_pos q, if_pos ⟨hf, q⟩]
    · rw [if_neg q, if_neg (fun z => q z.2)]
  clear HS hS
  go_enter Try.func67, Try.ntmps67
  go_wp2_with (first | (go_at_call 72; (with_reducible refine n1.mono ?_); rintro e v ⟨rfl, hv⟩; obtain rfl := hv.symm) | (go_at_call 72; (with_reducible refine n2.mono ?_); rintro e v ⟨rfl, hv⟩; obtain rfl := hv.symm) | (go_at_call 72; (with_reducible refine n3.mono ?_); rintro e v ⟨rfl, hv⟩; obtain rfl := hv.symm) | (go_at_call 72; (with_reducible refine n4.mono ?_); rintro e v ⟨rfl, hv⟩; obtain rfl := hv.symm) | (refine wpList_load_row rfl 36 (.tmp 5) rfl (w.heap.size + 1) rfl 36 _ (0, 0) _ hj2.2.1 undR rfl infoR ?_) | (go_at_call 31; (with_reducible refine he.mono ?_); rintro e W3 ⟨hyes, -, hu3⟩; obtain ⟨g3, rfl, hg3, hI3⟩ := hyes hf; have hj3 := hj2.carry hu3; have hat3 : BAt W3 bb off l := hat.carry (hu3.block bb hbl); have hbl3 : bb < W3.heap.size := Nat.lt_of_lt_of_le hbl hu3.size))
  go_loopw [9] (fun i wz => ∃ k : Nat, i = .int .i64 (k : Int) ∧ k ≤ 64 ∧ Hid (∀ j, j < k → l[j]? = S[j]?) ∧ Below W3.heap.size W3 wz) (fun i _ => 64 - vnat i)
  case atStart => exact ⟨0, rfl, by omega, fun j hj => absurd hj (by omega), Below.refl _ _⟩
  case round =>
    obtain ⟨k, rfl, hk, HK, hbk⟩ := hrel
    by_cases hk4 : k < 64
    · have hki : (k : Int) < 64 := by omega
      obtain ⟨x, hx⟩ := get_lt (l := l) (k := k) (by omega)
      obtain ⟨z, hz⟩ := get_lt (l := S) (k := k) (by omega)
      have HX : Hid (l[k]? = some x) := hx
      have HZ : Hid (S[k]? = some z) := hz
      clear hx hz
      by_cases hxz : x = z
      · subst hxz
        have HK2 : Hid (∀ j, j < k + 1 → l[j]? = S[j]?) := fun j hj => by
          rcases Nat.lt_or_ge j k with q | q
          · exact HK.out j q
          · obtain rfl : j = k := by omega
            rw [HX.out, HZ.out]
        go_wp2
        rename_i hK
        refine wp_region_any hmx ?_
        refine wpAny_pure (fun i__ => ([(.slice (some ⟨bb, off, none⟩) 64 cap), (.int .i64 (k : Int)), (.pointer (some ⟨bb, off + k, none⟩)), (.int .u8 (x : Int)), (.slice (some ⟨g3, 0, none⟩) 64 64), (.int .i64 (k : Int)), (.pointer (some ⟨g3, 0 + k, none⟩)), (.int .u8 (x : Int)), (.bool false)] : List Value).getD i__ undef) (fun V => Below W3.heap.size W3 V) (by kernel_rfl) (hbk.drew) ?_ ?_
        · refine (stepsFrom_cons ?_ (stepsFrom_cons ?_ (stepsFrom_cons ?_ (stepsFrom_cons ?_ (stepsFrom_cons ?_ (stepsFrom_cons ?_ (stepsFrom_cons ?_ (stepsFrom_cons ?_ (stepsFrom_cons ?_ trivial)))))))))
          · exact step_move rfl trivial _ rfl (by kernel_rfl)
          · exact step_move rfl trivial _ rfl (by kernel_rfl)
          · exact step_indexAddr rfl trivial _ _ _ _ _ rfl rfl rfl (fun v hw => idx_bz bb off _ _ k hk4 v)
          · exact step_load rfl trivial _ _ _ rfl rfl (fun v hw => load_u8 ((hat3.carry (hw.block bb hbl3)) k x HX.out))
          · exact step_move rfl trivial _ rfl (by kernel_rfl)
          · exact step_move rfl trivial _ rfl (by kernel_rfl)
          · exact step_indexAddr rfl trivial _ _ _ _ _ rfl rfl rfl (fun v hw => idx_bz g3 0 _ _ k hk4 v)
          · exact step_load rfl trivial _ _ _ rfl rfl (fun v hw => load_u8 (by rw [Nat.zero_add, cell_at ((hw.block g3 (lt_at hI3)).trans hI3), List.getElem?_toArray]; exact cB_get HZ.out))
          · exact step_binOp rfl trivial _ _ _ _ _ _ _ rfl rfl rfl (fun v hw => neqK_f _ _)
        intro W hW
        first | refine hK _ _ ?_ | refine (‹∀ (a : Act) (w : World), Code.wp Try.prog _ _ a w → _›) _ _ ?_
        simp only [finL, List.getD_cons_zero, List.getD_cons_succ, Nat.zero_add, Nat.reduceAdd, List.setIfInBounds_toArray, List.set_cons_zero, List.set_cons_succ]
        clear hK
        go_wp2
        go_roundw
        case rel => exact ⟨k + 1, by simp, by omega, HK2.out, hW⟩
        case measure => simp [vnat]; omega
      · have hne : ¬ S = l := fun e => hxz (by have := HX.out; rw [← e, HZ.out] at this; exact (Option.some.inj this).symm)
        have HN : Hid (say l = none) := by show say l = none; rw [HS2.out, if_neg hne]
        go_wp2
        rename_i hK
        refine wp_region_any hmx ?_
        refine wpAny_pure (fun i__ => ([(.slice (some ⟨bb, off, none⟩) 64 cap), (.int .i64 (k : Int)), (.pointer (some ⟨bb, off + k, none⟩)), (.int .u8 (x : Int)), (.slice (some ⟨g3, 0, none⟩) 64 64), (.int .i64 (k : Int)), (.pointer (some ⟨g3, 0 + k, none⟩)), (.int .u8 (z : Int)), (.bool true)] : List Value).getD i__ undef) (fun V => Below W3.heap.size W3 V) (by kernel_rfl) (hbk.drew) ?_ ?_
        · refine (stepsFrom_cons ?_ (stepsFrom_cons ?_ (stepsFrom_cons ?_ (stepsFrom_cons ?_ (stepsFrom_cons ?_ (stepsFrom_cons ?_ (stepsFrom_cons ?_ (stepsFrom_cons ?_ (stepsFrom_cons ?_ trivial)))))))))
          · exact step_move rfl trivial _ rfl (by kernel_rfl)
          · exact step_move rfl trivial _ rfl (by kernel_rfl)
          · exact step_indexAddr rfl trivial _ _ _ _ _ rfl rfl rfl (fun v hw => idx_bz bb off _ _ k hk4 v)
          · exact step_load rfl trivial _ _ _ rfl rfl (fun v hw => load_u8 ((hat3.carry (hw.block bb hbl3)) k x HX.out))
          · exact step_move rfl trivial _ rfl (by kernel_rfl)
          · exact step_move rfl trivial _ rfl (by kernel_rfl)
          · exact step_indexAddr rfl trivial _ _ _ _ _ rfl rfl rfl (fun v hw => idx_bz g3 0 _ _ k hk4 v)
          · exact step_load rfl trivial _ _ _ rfl rfl (fun v hw => load_u8 (by rw [Nat.zero_add, cell_at ((hw.block g3 (lt_at hI3)).trans hI3), List.getElem?_toArray]; exact cB_get HZ.out))
          · exact step_binOp rfl trivial _ _ _ _ _ _ _ rfl rfl rfl (fun v hw => neqK_t (by omega))
        intro W hW
        first | refine hK _ _ ?_ | refine (‹∀ (a : Act) (w : World), Code.wp Try.prog _ _ a w → _›) _ _ ?_
        simp only [finL, List.getD_cons_zero, List.getD_cons_succ, Nat.zero_add, Nat.reduceAdd, List.setIfInBounds_toArray, List.set_cons_zero, List.set_cons_succ]
        have hj3 := hj3.carry hW
        clear hK
        go_wp2_with (refine wpList_store_row rfl 36 (.tmp 2) (.tmp 50) rfl w.heap.size #[.int .i64 0, .int .i64 0, .int .i64 0] rfl rfl 36 _ hj3.1 infoR rfl (by simp [Value.oneCell']) ?_; obtain ⟨v, hv⟩ : ∃ v, W.setRow w.heap.size #[.int .i64 0, .int .i64 0, .int .i64 0] = v := ⟨_, rfl⟩; have HV : Hid (v.heap[w.heap.size]? = some (.cells #[.int .i64 0, .int .i64 0, .int .i64 0] 36 (0, 0))) := (by rw [← hv]; exact setRow_heap _ _ _ _ _ _ hj3.1); have HB : Hid (Below w.heap.size w v) := (by rw [← hv]; exact below_setRow hj3.2.2 (Nat.le_refl _) _); rw [hv])
        (try simp only [Exit.inBlock, Exit.then])
        exact retC3 rfl rfl rfl rfl rfl HV.out undR infoR ⟨by rw [HN.out]; rfl, HB.out⟩
    · have hk6 : k = 64 := by omega
      subst hk6
      have hSl2 : S = l := List.ext_getElem? fun j => by
        rcases Nat.lt_or_ge j 64 with q | q
        · exact (HK.out j q).symm
        · rw [List.getElem?_eq_none (by omega), List.getElem?_eq_none (by omega)]
      have HN : Hid (say l = some (r, s)) := by show say l = _; rw [HS2.out, if_pos hSl2]
      have hj3 := hj3.carry hbk
      clear HS2 HK hSl2
      go_wp2_with (first | (refine wpList_load_row rfl 36 (.tmp 5) rfl (w.heap.size + 1) rfl 36 _ (0, 0) _ hj3.2.1 undR rfl infoR ?_) | (refine wpList_store_row rfl 36 (.tmp 2) (.tmp 51) rfl w.heap.size #[.int .i64 r.li, .int .i64 r.ro, .int .i64 r.ta] rfl rfl 36 _ hj3.1 infoR rfl (by simp [Value.oneCell']) ?_; obtain ⟨v, hv⟩ : ∃ v, wr.setRow w.heap.size #[.int .i64 r.li, .int .i64 r.ro, .int .i64 r.ta] = v := ⟨_, rfl⟩; have HV : Hid (v.heap[w.heap.size]? = some (.cells #[.int .i64 r.li, .int .i64 r.ro, .int .i64 r.ta] 36 (0, 0))) := (by rw [← hv]; exact setRow_heap _ _ _ _ _ _ hj3.1); have HB : Hid (Below w.heap.size w v) := (by rw [← hv]; exact below_setRow hj3.2.2 (Nat.le_refl _) _); rw [hv]))
      (try simp only [Exit.inBlock, Exit.then])
      exact retC3 rfl rfl rfl rfl rfl HV.out undR infoR ⟨by rw [HN.out]; rfl, HB.out⟩
end Go.Proofs.Ytjleggnkacmbbaa
