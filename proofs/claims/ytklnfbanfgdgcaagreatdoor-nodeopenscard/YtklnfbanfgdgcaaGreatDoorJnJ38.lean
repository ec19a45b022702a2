/- The document's Decode: what it answers. -/
import Derived.Test.YtklnfbanfgdgcaaGreatDoorJnJ37
import Derived.Test.YtklnfbanfgdgcaaGreatDoorJnJ9
import Derived.Test.YtklnfbanfgdgcaaGreatDoorJnJ13
import Derived.Laws.OwnMore
import Derived.Laws.IdiomArrays
set_option maxHeartbeats 40000000
set_option maxRecDepth 100000
set_option linter.unusedVariables false
namespace Go.Proofs.YtklnfbanfgdgcaaGreatDoor
open Go.RowKit Go.Shelf Go.Lib

section
variable {l : List Nat}
theorem val_pre {X : List Nat} (hb : Byt X) (hl : X.length ≤ 5) (k : Nat) : valB 0 (X.take k) < 36028797018963968 := by
  have h1 := valB_lt (X.take k) (hb.take k)
  have h2 : 2 ^ (8 * (X.take k).length) ≤ 2 ^ (8 * 5) := Nat.pow_le_pow_right (by decide) (by rw [List.length_take]; omega)
  omega
theorem eight (hl : l.length = 64) : ∃ y Y, (l.drop 4).take 8 = y :: Y ∧ Y.length = 7 ∧ l[4]? = some y := by
  have h4 : 4 < l.length := by omega
  refine ⟨l[4], (l.drop 5).take 7, ?_, ?_, List.getElem?_eq_getElem h4⟩
  · rw [List.drop_eq_getElem_cons h4]
    rfl
  · rw [List.length_take, List.length_drop]
    omega
theorem val_eight {y : Nat} {Y : List Nat} (hb : Byt (y :: Y)) (hY : Y.length = 7) : valB 0 (y :: Y) = y * 72057594037927936 + valB 0 Y ∧ valB 0 Y < 72057594037927936 := by
  have h1 := valB_lt Y hb.tail
  rw [hY] at h1
  have h2 := valB_acc Y (0 * 256 + y)
  rw [hY] at h2
  refine ⟨?_, h1⟩
  show valB (0 * 256 + y) Y = _
  rw [h2, Nat.zero_mul, Nat.zero_add]
theorem say_top (hl : l.length = 64) (hB : Byt l) {y : Nat} (h : l[4]? = some y) (hy : y ≠ 0) : say l = none := by
  obtain ⟨y', Y, e1, e2, e3⟩ := eight hl
  rw [h] at e3
  cases e3
  have hb : Byt (y :: Y) := by rw [← e1]; exact (hB.drop 4).take 8
  obtain ⟨e4, e5⟩ := val_eight hb e2
  have hy8 := hb.head
  unfold say
  rw [if_neg]
  rintro ⟨⟨_, q1, q2⟩, _⟩
  unfold rdS at q1 q2
  rw [e1, e4, IntKind.wrap_i64] at q1 q2
  omega
theorem rdS_low (hl : l.length = 64) (hB : Byt l) (h : l[4]? = some 0) : rdS l = ((valB 0 ((l.drop 4).take 8) : Nat) : Int) ∧ ∀ k, k < 8 → valB 0 (((l.drop 4).take 8).take k) < 36028797018963968 := by
  obtain ⟨y', Y, e1, e2, e3⟩ := eight hl
  rw [h] at e3
  cases e3
  have hb : Byt (0 :: Y) := by rw [← e1]; exact (hB.drop 4).take 8
  obtain ⟨e4, e5⟩ := val_eight hb e2
  refine ⟨?_, fun k hk => ?_⟩
  · unfold rdS
    rw [e1, e4]
    exact i64_idZ _ (by omega) (by omega)
  · rw [e1]
    cases k with
    | zero => simp [valB]
    | succ k =>
      rw [List.take_succ_cons]
      show valB (0 * 256 + 0) (Y.take k) < _
      have h1 := valB_lt (Y.take k) (hb.tail.take k)
      have h2 : 2 ^ (8 * (Y.take k).length) ≤ 2 ^ (8 * 6) := Nat.pow_le_pow_right (by decide) (by rw [List.length_take]; omega)
      show valB 0 (Y.take k) < _
      omega
end
/-- While the document reads a slot's bytes. -/
def JD (w : World) (r : Rec) (V : World) : Prop := V.heap[w.heap.size]? = some (.cells #[.int .i64 0, .int .i64 0, .int .i64 0] 23 (0, 0)) ∧ V.heap[w.heap.size + 1]? = some (.cells #[.int .i64 r.li, .int .i64 r.ro, .int .i64 r.ta] 23 (0, 0)) ∧ Below w.heap.size w V
theorem JD.carry {w V V' : World} {r : Rec} (h : JD w r V) (hb : Below V.heap.size V V') : JD w r V' := ⟨(hb.block _ (lt_at h.1)).trans h.1, (hb.block _ (lt_at h.2.1)).trans h.2.1, bel2Z h.2.2 hb⟩
set_option maxHeartbeats 8000000 in
set_option maxRecDepth 100000 in
theorem rdec_any (ad : Option Addr) (cap : Nat) (l : List Nat) (w : World) (h : RdB w ad l) (hl : l.length = 64) (hB : Byt l) : Calls Tryz.prog 233 #[.slice ad 64 cap] w fun e w' => e = .returned (decV (say l)) ∧ Below w.heap.size w w' := by
  have hmx : Tryz.prog.follows .mixedOrders = true := by kernel_rfl
  obtain ⟨w1, hw1⟩ : ∃ w1, w.alloc (.cells #[.int .i64 0, .int .i64 0, .int .i64 0] 23) = w1 := ⟨_, rfl⟩
  have hb1 : Below w.heap.size w w1 := by rw [← hw1]; exact al1'Z _ _
  have hg1 : w1.heap[w.heap.size]? = some (.cells #[.int .i64 0, .int .i64 0, .int .i64 0] 23 (0, 0)) := by rw [← hw1]; exact new_at rfl
  have hs1 : w1.heap.size = w.heap.size + 1 := by rw [← hw1]; simp
  have h1 := h.carry hb1
  have n1 : Calls Tryz.prog 273 #[.slice ad 64 cap, .int .i64 12, .int .i64 4] w1 (fun e w' => e = .returned (.int .i64 (rdR l).li) ∧ w' = w1) := rvalue_any ad cap 12 4 l w1 h1 hB hl (by omega) (by omega) (fun k _ => val_pre ((hB.drop _).take _) (by rw [List.length_take]; omega) k)
  have n2 : Calls Tryz.prog 273 #[.slice ad 64 cap, .int .i64 16, .int .i64 5] w1 (fun e w' => e = .returned (.int .i64 (rdR l).ro) ∧ w' = w1) := rvalue_any ad cap 16 5 l w1 h1 hB hl (by omega) (by omega) (fun k _ => val_pre ((hB.drop _).take _) (by rw [List.length_take]; omega) k)
  have n3 : Calls Tryz.prog 273 #[.slice ad 64 cap, .int .i64 44, .int .i64 3] w1 (fun e w' => e = .returned (.int .i64 (rdR l).ta) ∧ w' = w1) := rvalue_any ad cap 44 3 l w1 h1 hB hl (by omega) (by omega) (fun k _ => val_pre ((hB.drop _).take _) (by rw [List.length_take]; omega) k)
  obtain ⟨r, hr⟩ : ∃ r, rdR l = r := ⟨_, rfl⟩
  rw [hr] at n1 n2 n3
  obtain ⟨w2, hw2⟩ : ∃ w2, w1.alloc (.cells #[.int .i64 r.li, .int .i64 r.ro, .int .i64 r.ta] 23) = w2 := ⟨_, rfl⟩
  have hj2 : JD w r w2 := by
    rw [← hw2]
    exact ⟨old_at hg1, by rw [← hs1]; exact new_at rfl, bel2Z hb1 (al1'Z _ _)⟩
  obtain ⟨y, hy⟩ := get_lt (l := l) (k := 4) (by omega)
  have h2 := h.carry hj2.2.2
  obtain ⟨bb, off, e1, hbl, hat⟩ := h2 (fun e => by subst e; simp at hl)
  subst e1
  have c4 := hat 4 y hy
  by_cases hy0 : y = 0
  case neg =>
    have hsn := say_top hl hB hy hy0
    have hyi : ¬ (y : Int) = 0 := by omega
    rw [hsn]
    clear hat h h1 h2
    go_enter Tryz.func233, Tryz.ntmps233
    go_wp2_with (first | (go_at_call 273; (with_reducible refine n1.mono ?_); rintro e v ⟨rfl, hv⟩; obtain rfl := hv.symm) | (go_at_call 273; (with_reducible refine n2.mono ?_); rintro e v ⟨rfl, hv⟩; obtain rfl := hv.symm) | (go_at_call 273; (with_reducible refine n3.mono ?_); rintro e v ⟨rfl, hv⟩; obtain rfl := hv.symm) | (refine wpList_store_row rfl 23 (.tmp 2) (.tmp 25) rfl w.heap.size #[.int .i64 0, .int .i64 0, .int .i64 0] rfl rfl 23 _ hj2.1 infoR rfl (by simp [Value.oneCell']) ?_; obtain ⟨v, hv⟩ : ∃ v, w2.setRow w.heap.size #[.int .i64 0, .int .i64 0, .int .i64 0] = v := ⟨_, rfl⟩; have HV : Hid (v.heap[w.heap.size]? = some (.cells #[.int .i64 0, .int .i64 0, .int .i64 0] 23 (0, 0))) := (by rw [← hv]; exact setRow_heap _ _ _ _ _ _ hj2.1); have HB : Hid (Below w.heap.size w v) := (by rw [← hv]; exact below_setRow hj2.2.2 (Nat.le_refl _) _); rw [hv]))
    (try simp only [Exit.inBlock, Exit.then])
    exact retC3 rfl rfl rfl rfl rfl HV.out undR infoR ⟨rfl, HB.out⟩
  subst hy0
  obtain ⟨hs0, hvs⟩ := rdS_low hl hB hy
  have n4 : Calls Tryz.prog 273 #[.slice (some ⟨bb, off, none⟩) 64 cap, .int .i64 4, .int .i64 8] w2 (fun e w' => e = .returned (.int .i64 ((valB 0 ((l.drop 4).take 8) : Nat) : Int)) ∧ w' = w2) := rvalue_any _ cap 4 8 l w2 h2 hB hl (by omega) (by omega) hvs
  rw [← hs0] at n4
  obtain ⟨s, hs⟩ : ∃ s, rdS l = s := ⟨_, rfl⟩
  rw [hs] at n4
  have HS : Hid (say l = if Fit r s ∧ slB r s = l then some (r, s) else none) := by show say l = _; rw [← hr, ← hs]; rfl
  have he := rEnc_any r s w2
  unfold rV at he
  clear hs0 hvs hs hr h h1 h2 hy
  by_cases hf : Fit r s
  case neg =>
    have HN : Hid (say l = none) := by show say l = none; rw [HS.out, if_neg (fun q => hf q.1)]
    clear HS hat
    go_enter Tryz.func233, Tryz.ntmps233
    go_wp2_with (first | (go_at_call 273; (with_reducible refine n1.mono ?_); rintro e v ⟨rfl, hv⟩; obtain rfl := hv.symm) | (go_at_call 273; (with_reducible refine n2.mono ?_); rintro e v ⟨rfl, hv⟩; obtain rfl := hv.symm) | (go_at_call 273; (with_reducible refine n3.mono ?_); rintro e v ⟨rfl, hv⟩; obtain rfl := hv.symm) | (go_at_call 273; (with_reducible refine n4.mono ?_); rintro e v ⟨rfl, hv⟩; obtain rfl := hv.symm) | (refine wpList_load_row rfl 23 (.tmp 5) rfl (w.heap.size + 1) rfl 23 _ (0, 0) _ hj2.2.1 undR rfl infoR ?_) | (go_at_call 7; (with_reducible refine he.mono ?_); rintro e W3 ⟨-, hno, hu3⟩; obtain rfl := hno hf; have hj3 := hj2.carry hu3) | (refine wpList_store_row rfl 23 (.tmp 2) (.tmp 36) rfl w.heap.size #[.int .i64 0, .int .i64 0, .int .i64 0] rfl rfl 23 _ hj3.1 infoR rfl (by simp [Value.oneCell']) ?_; obtain ⟨v, hv⟩ : ∃ v, W3.setRow w.heap.size #[.int .i64 0, .int .i64 0, .int .i64 0] = v := ⟨_, rfl⟩; have HV : Hid (v.heap[w.heap.size]? = some (.cells #[.int .i64 0, .int .i64 0, .int .i64 0] 23 (0, 0))) := (by rw [← hv]; exact setRow_heap _ _ _ _ _ _ hj3.1); have HB : Hid (Below w.heap.size w v) := (by rw [← hv]; exact below_setRow hj3.2.2 (Nat.le_refl _) _); rw [hv]))
    (try simp only [Exit.inBlock, Exit.then])
    exact retC3 rfl rfl rfl rfl rfl HV.out undR infoR ⟨by rw [HN.out]; rfl, HB.out⟩
  have hSl := slB_len r s
  obtain ⟨S, hS⟩ : ∃ S, slB r s = S := ⟨_, rfl⟩
  rw [hS] at he hSl
  have HS2 : Hid (say l = if S = l then some (r, s) else none) := by
    show say l = _
    rw [HS.out, hS]
    by_cases q : S = l
    · rw [if_pos q, if_pos ⟨hf, q⟩]
    · rw [if_neg q, if_neg (fun z => q z.2)]
  clear HS hS
  go_enter Tryz.func233, Tryz.ntmps233
  go_wp2_with (first | (go_at_call 273; (with_reducible refine n1.mono ?_); rintro e v ⟨rfl, hv⟩; obtain rfl := hv.symm) | (go_at_call 273; (with_reducible refine n2.mono ?_); rintro e v ⟨rfl, hv⟩; obtain rfl := hv.symm) | (go_at_call 273; (with_reducible refine n3.mono ?_); rintro e v ⟨rfl, hv⟩; obtain rfl := hv.symm) | (go_at_call 273; (with_reducible refine n4.mono ?_); rintro e v ⟨rfl, hv⟩; obtain rfl := hv.symm) | (refine wpList_load_row rfl 23 (.tmp 5) rfl (w.heap.size + 1) rfl 23 _ (0, 0) _ hj2.2.1 undR rfl infoR ?_) | (go_at_call 7; (with_reducible refine he.mono ?_); rintro e W3 ⟨hyes, -, hu3⟩; obtain ⟨g3, rfl, hg3, hI3⟩ := hyes hf; have hj3 := hj2.carry hu3; have hat3 : BAt W3 bb off l := hat.carry (hu3.block bb hbl); have hbl3 : bb < W3.heap.size := Nat.lt_of_lt_of_le hbl hu3.size))
  go_loopw [9] (fun i wz => ∃ k : Nat, i = .int .i64 (k : Int) ∧ k ≤ 64 ∧ Hid (∀ j, j < k → l[j]? = S[j]?) ∧ Below W3.heap.size W3 wz) (fun i _ => 64 - vnatZ i)
  case atStart => exact ⟨0, rfl, by omega, fun j hj => absurd hj (by omega), Below.refl _ _⟩
  case round =>
    obtain ⟨k, rfl, hk, HK, hbk⟩ := hrel
    by_cases hk4 : k < 64
    · have hki : (k : Int) < 64 := by omega
      obtain ⟨x, hx⟩ := get_lt (l := l) (k := k) (by omega)
      obtain ⟨z, hz⟩ := get_lt (l := S) (k := k) (by omega)
      have HX : Hid (l[k]? = some x) := hx
      have HZ : Hid (S[k]? = some z) := hz
      clear hx hz
      by_cases hxz : x = z
      · subst hxz
        have HK2 : Hid (∀ j, j < k + 1 → l[j]? = S[j]?) := fun j hj => by
          rcases Nat.lt_or_ge j k with q | q
          · exact HK.out j q
          · obtain rfl : j = k := by omega
            rw [HX.out, HZ.out]
        go_wp2
        rename_i hK
        refine wp_region_any hmx ?_
        refine wpAny_pure (fun i__ => ([(.slice (some ⟨bb, off, none⟩) 64 cap), (.int .i64 (k : Int)), (.pointer (some ⟨bb, off + k, none⟩)), (.int .u8 (x : Int)), (.slice (some ⟨g3, 0, none⟩) 64 64), (.int .i64 (k : Int)), (.pointer (some ⟨g3, 0 + k, none⟩)), (.int .u8 (x : Int)), (.bool false)] : List Value).getD i__ undef) (fun V => Below W3.heap.size W3 V) (by kernel_rfl) (hbk.drew) ?_ ?_
        · refine (stepsFrom_cons ?_ (stepsFrom_cons ?_ (stepsFrom_cons ?_ (stepsFrom_cons ?_ (stepsFrom_cons ?_ (stepsFrom_cons ?_ (stepsFrom_cons ?_ (stepsFrom_cons ?_ (stepsFrom_cons ?_ trivial)))))))))
          · exact step_move rfl trivial _ rfl (by kernel_rfl)
          · exact step_move rfl trivial _ rfl (by kernel_rfl)
          · exact step_indexAddr rfl trivial _ _ _ _ _ rfl rfl rfl (fun v hw => idx_bz bb off _ _ k hk4 v)
          · exact step_load rfl trivial _ _ _ rfl rfl (fun v hw => load_u8 ((hat3.carry (hw.block bb hbl3)) k x HX.out))
          · exact step_move rfl trivial _ rfl (by kernel_rfl)
          · exact step_move rfl trivial _ rfl (by kernel_rfl)
          · exact step_indexAddr rfl trivial _ _ _ _ _ rfl rfl rfl (fun v hw => idx_bz g3 0 _ _ k hk4 v)
          · exact step_load rfl trivial _ _ _ rfl rfl (fun v hw => load_u8 (by rw [Nat.zero_add, cell_at ((hw.block g3 (lt_at hI3)).trans hI3), List.getElem?_toArray]; exact cB_get HZ.out))
          · exact step_binOp rfl trivial _ _ _ _ _ _ _ rfl rfl rfl (fun v hw => neqK_f _ _)
        intro W hW
        first | refine hK _ _ ?_ | refine (‹∀ (a : Act) (w : World), Code.wp Tryz.prog _ _ a w → _›) _ _ ?_ | skip
        simp only [finL, List.getD_cons_zero, List.getD_cons_succ, Nat.zero_add, Nat.reduceAdd, List.setIfInBounds_toArray, List.set_cons_zero, List.set_cons_succ]
        clear hK
        go_wp2
        go_roundw
        case rel => exact ⟨k + 1, by simp, by omega, HK2.out, hW⟩
        case measure => simp [vnatZ]; omega
      · have hne : ¬ S = l := fun e => hxz (by have := HX.out; rw [← e, HZ.out] at this; exact (Option.some.inj this).symm)
        have HN : Hid (say l = none) := by show say l = none; rw [HS2.out, if_neg hne]
        go_wp2
        rename_i hK
        refine wp_region_any hmx ?_
        refine wpAny_pure (fun i__ => ([(.slice (some ⟨bb, off, none⟩) 64 cap), (.int .i64 (k : Int)), (.pointer (some ⟨bb, off + k, none⟩)), (.int .u8 (x : Int)), (.slice (some ⟨g3, 0, none⟩) 64 64), (.int .i64 (k : Int)), (.pointer (some ⟨g3, 0 + k, none⟩)), (.int .u8 (z : Int)), (.bool true)] : List Value).getD i__ undef) (fun V => Below W3.heap.size W3 V) (by kernel_rfl) (hbk.drew) ?_ ?_
        · refine (stepsFrom_cons ?_ (stepsFrom_cons ?_ (stepsFrom_cons ?_ (stepsFrom_cons ?_ (stepsFrom_cons ?_ (stepsFrom_cons ?_ (stepsFrom_cons ?_ (stepsFrom_cons ?_ (stepsFrom_cons ?_ trivial)))))))))
          · exact step_move rfl trivial _ rfl (by kernel_rfl)
          · exact step_move rfl trivial _ rfl (by kernel_rfl)
          · exact step_indexAddr rfl trivial _ _ _ _ _ rfl rfl rfl (fun v hw => idx_bz bb off _ _ k hk4 v)
          · exact step_load rfl trivial _ _ _ rfl rfl (fun v hw => load_u8 ((hat3.carry (hw.block bb hbl3)) k x HX.out))
          · exact step_move rfl trivial _ rfl (by kernel_rfl)
          · exact step_move rfl trivial _ rfl (by kernel_rfl)
          · exact step_indexAddr rfl trivial _ _ _ _ _ rfl rfl rfl (fun v hw => idx_bz g3 0 _ _ k hk4 v)
          · exact step_load rfl trivial _ _ _ rfl rfl (fun v hw => load_u8 (by rw [Nat.zero_add, cell_at ((hw.block g3 (lt_at hI3)).trans hI3), List.getElem?_toArray]; exact cB_get HZ.out))
          · exact step_binOp rfl trivial _ _ _ _ _ _ _ rfl rfl rfl (fun v hw => neqK_t (by omega))
        intro W hW
        first | refine hK _ _ ?_ | refine (‹∀ (a : Act) (w : World), Code.wp Tryz.prog _ _ a w → _›) _ _ ?_ | skip
        simp only [finL, List.getD_cons_zero, List.getD_cons_succ, Nat.zero_add, Nat.reduceAdd, List.setIfInBounds_toArray, List.set_cons_zero, List.set_cons_succ]
        have hj3 := hj3.carry hW
        clear hK
        go_wp2_with (refine wpList_store_row rfl 23 (.tmp 2) (.tmp 50) rfl w.heap.size #[.int .i64 0, .int .i64 0, .int .i64 0] rfl rfl 23 _ hj3.1 infoR rfl (by simp [Value.oneCell']) ?_; obtain ⟨v, hv⟩ : ∃ v, W.setRow w.heap.size #[.int .i64 0, .int .i64 0, .int .i64 0] = v := ⟨_, rfl⟩; have HV : Hid (v.heap[w.heap.size]? = some (.cells #[.int .i64 0, .int .i64 0, .int .i64 0] 23 (0, 0))) := (by rw [← hv]; exact setRow_heap _ _ _ _ _ _ hj3.1); have HB : Hid (Below w.heap.size w v) := (by rw [← hv]; exact below_setRow hj3.2.2 (Nat.le_refl _) _); rw [hv])
        (try simp only [Exit.inBlock, Exit.then])
        exact retC3 rfl rfl rfl rfl rfl HV.out undR infoR ⟨by rw [HN.out]; rfl, HB.out⟩
    · have hk6 : k = 64 := by omega
      subst hk6
      have hSl2 : S = l := List.ext_getElem? fun j => by
        rcases Nat.lt_or_ge j 64 with q | q
        · exact (HK.out j q).symm
        · rw [List.getElem?_eq_none (by omega), List.getElem?_eq_none (by omega)]
      have HN : Hid (say l = some (r, s)) := by show say l = _; rw [HS2.out, if_pos hSl2]
      have hj3 := hj3.carry hbk
      clear HS2 HK hSl2
      go_wp2_with (first | (refine wpList_load_row rfl 23 (.tmp 5) rfl (w.heap.size + 1) rfl 23 _ (0, 0) _ hj3.2.1 undR rfl infoR ?_) | (refine wpList_store_row rfl 23 (.tmp 2) (.tmp 51) rfl w.heap.size #[.int .i64 r.li, .int .i64 r.ro, .int .i64 r.ta] rfl rfl 23 _ hj3.1 infoR rfl (by simp [Value.oneCell']) ?_; obtain ⟨v, hv⟩ : ∃ v, wr.setRow w.heap.size #[.int .i64 r.li, .int .i64 r.ro, .int .i64 r.ta] = v := ⟨_, rfl⟩; have HV : Hid (v.heap[w.heap.size]? = some (.cells #[.int .i64 r.li, .int .i64 r.ro, .int .i64 r.ta] 23 (0, 0))) := (by rw [← hv]; exact setRow_heap _ _ _ _ _ _ hj3.1); have HB : Hid (Below w.heap.size w v) := (by rw [← hv]; exact below_setRow hj3.2.2 (Nat.le_refl _) _); rw [hv]))
      (try simp only [Exit.inBlock, Exit.then])
      exact retC3 rfl rfl rfl rfl rfl HV.out undR infoR ⟨by rw [HN.out]; rfl, HB.out⟩
end Go.Proofs.YtklnfbanfgdgcaaGreatDoor
namespace Go.Proofs.YtklnfbanfgdgcaaGreatDoor
open Go.RowKit Go.Shelf

theorem ownsRow_blockZ {w : World} {base : Nat} {e : TypeId} {size : Nat} {v : Value} {n : Nat} {xs : List Value} (h : w.ownsRow base e size v n xs) : ∀ g, v.ownBlock = some g → base ≤ g ∧ ∃ cur, w.heap[g]? = some (.cells cur e (0, 0)) := by
  intro g hg
  rcases h.2 with ⟨rfl, _⟩ | ⟨g', cap, cur, rfl, h4, h5, _⟩
  · cases hg
  · cases hg
    exact ⟨h4, cur, h5⟩
theorem ownsRow_setZ {w : World} {base : Nat} {e : TypeId} {size : Nat} {v : Value} {n : Nat} {xs : List Value} {b j : Nat} (h : w.ownsRow base e size v n xs) (hb : ∀ g, v.ownBlock = some g → g ≠ b) (u : Value) : (w.setCell ⟨b, j, none⟩ u).ownsRow base e size v n xs := by
  obtain ⟨h1, h2⟩ := h
  refine ⟨h1, ?_⟩
  rcases h2 with h2 | ⟨g, cap, cur, h3, h4, h5, h6⟩
  · exact .inl h2
  · subst h3
    exact .inr ⟨g, cap, cur, rfl, h4, (Below.heap_setCell _ _ _ _ (hb g rfl)).trans h5, h6⟩
/-- The document's disk as a value. -/
def rdV (r c : Nat) (o : Bool) (f n : Int) : Value := .agg #[.slice (some ⟨r, 0, none⟩) 256 c, .bool o, .int .i64 f, .int .i64 n]
/-- The document's disk in a block, from o on. -/
structure RfD (W : World) (lb o base r c : Nat) (d : Dst) : Prop where
  b : W.cell? ⟨lb, o, none⟩ = some (.slice (some ⟨r, 0, none⟩) 256 c)
  f : W.cell? ⟨lb, o + 1, none⟩ = some (.bool d.off)
  u : W.cell? ⟨lb, o + 2, none⟩ = some (.int .i64 (left d))
  n : W.cell? ⟨lb, o + 3, none⟩ = some (.int .i64 d.writes)
  row : W.ownsRow base 5 1 (.slice (some ⟨r, 0, none⟩) 256 c) 256 (cB d.l)
  lk : ∃ cur, W.heap[lb]? = some (.cells cur 32 (0, 0))
  len : d.l.length = 256
  byt : Byt d.l
section
variable {W V : World} {lb o base r c : Nat} {d : Dst}
theorem RfD.rb (h : RfD W lb o base r c d) : base ≤ r ∧ ∃ cur, W.heap[r]? = some (.cells cur 5 (0, 0)) := ownsRow_blockZ h.row r rfl
theorem RfD.ne (h : RfD W lb o base r c d) : r ≠ lb := fun e => by
  obtain ⟨_, cur, h2⟩ := h.rb
  obtain ⟨cur', h3⟩ := h.lk
  rw [e] at h2
  have := h2.symm.trans h3
  simp only [Option.some.injEq, Obj.cells.injEq] at this
  exact absurd this.2.1 (by decide)
theorem RfD.zaw (h : RfD W lb o base r c d) (j : Nat) : W.frozen? ⟨lb, j, none⟩ = false := by
  obtain ⟨cur, h3⟩ := h.lk
  exact thaw_at h3 j
theorem RfD.at (h : RfD W lb o base r c d) : BAt W r 0 d.l := b_own h.row h.len.symm
end
/-- What turns the document's disk alone. -/
structure Tf (lb o r : Nat) (W W' : World) : Prop where
  os : W'.os = W.os
  tape : W'.tape = W.tape
  output : W'.output = W.output
  size : W.heap.size ≤ W'.heap.size
  block : ∀ k, k < W.heap.size → k ≠ lb → k ≠ r → W'.heap[k]? = W.heap[k]?
  lk : ∀ cur, W.heap[lb]? = some (.cells cur 32 (0, 0)) → ∃ cur', W'.heap[lb]? = some (.cells cur' 32 (0, 0)) ∧ cur'.size = cur.size ∧ ∀ j, (j < o ∨ o + 4 ≤ j) → cur'[j]? = cur[j]?
theorem Tf.refl (lb o r : Nat) (W : World) : Tf lb o r W W := ⟨rfl, rfl, rfl, Nat.le_refl _, fun _ _ _ _ => rfl, fun cur h => ⟨cur, h, rfl, fun _ _ => rfl⟩⟩
theorem Tf.trans {lb o r : Nat} {W W' W'' : World} (h : Tf lb o r W W') (k : Tf lb o r W' W'') : Tf lb o r W W'' := by
  refine ⟨k.os.trans h.os, k.tape.trans h.tape, k.output.trans h.output, Nat.le_trans h.size k.size, fun j hj h1 h2 => (k.block j (Nat.lt_of_lt_of_le hj h.size) h1 h2).trans (h.block j hj h1 h2), fun cur hc => ?_⟩
  obtain ⟨c1, a1, a2, a3⟩ := h.lk cur hc
  obtain ⟨c2, b1, b2, b3⟩ := k.lk c1 a1
  exact ⟨c2, b1, b2.trans a2, fun j hj => (b3 j hj).trans (a3 j hj)⟩
theorem Tf.set (lb o r j : Nat) (W : World) (v : Value) (h1 : o ≤ j) (h2 : j < o + 4) : Tf lb o r W (W.setCell ⟨lb, j, none⟩ v) :=
  ⟨rfl, rfl, rfl, by simp [World.setCell], fun k _ hn _ => Below.heap_setCell W ⟨lb, j, none⟩ v k hn, fun cur hc => ⟨_, heap_setCell_same _ _ j _ _ v hc, by simp, fun i hi => by rw [Array.getElem?_setIfInBounds_ne (by omega)]⟩⟩
theorem Tf.put (lb o r j : Nat) (W : World) (v : Value) (hn : r ≠ lb) : Tf lb o r W (W.setCell ⟨r, j, none⟩ v) :=
  ⟨rfl, rfl, rfl, by simp [World.setCell], fun k _ _ hk => Below.heap_setCell W ⟨r, j, none⟩ v k hk, fun cur hc => ⟨cur, (Below.heap_setCell W ⟨r, j, none⟩ v lb (Ne.symm hn)).trans hc, rfl, fun _ _ => rfl⟩⟩
theorem Tf.of (lb o r : Nat) {W W' : World} (hb : Below W.heap.size W W') : Tf lb o r W W' := ⟨hb.os, hb.tape, hb.output, hb.size, fun k hk _ _ => hb.block k hk, fun cur hc => ⟨cur, (hb.block _ (lt_at hc)).trans hc, rfl, fun _ _ => rfl⟩⟩
theorem Tf.below {lb o r base : Nat} {W W' : World} (h : Tf lb o r W W') (h1 : base ≤ lb) (h2 : base ≤ r) (hb : base ≤ W.heap.size) : Below base W W' :=
  ⟨h.os, h.tape, h.output, h.size, fun k hk => h.block k (by omega) (by omega) (by omega)⟩
section
variable {W V : World} {lb o base r c : Nat} {d : Dst}
theorem RfD.set1 (h : RfD W lb o base r c d) (x : Bool) : RfD (W.setCell ⟨lb, o + 1, none⟩ (.bool x)) lb o base r c { d with off := x } := by
  obtain ⟨cur, hl⟩ := h.lk
  have hs := heap_setCell_same _ _ (o + 1) _ _ (.bool x) hl
  have hlt : o + 1 < cur.size := by
    have := h.f
    rw [cell_at hl] at this
    exact (Array.getElem?_eq_some_iff.1 this).1
  have hc : ∀ j, j ≠ o + 1 → (W.setCell ⟨lb, o + 1, none⟩ (.bool x)).cell? ⟨lb, j, none⟩ = W.cell? ⟨lb, j, none⟩ := fun j hj => by rw [cell_at hs, cell_at hl, Array.getElem?_setIfInBounds_ne (by omega)]
  exact ⟨(hc _ (by omega)).trans h.b, by rw [cell_at hs]; simp [hlt], (hc _ (by omega)).trans h.u, (hc _ (by omega)).trans h.n, ownsRow_setZ h.row (fun g e => by cases e; exact h.ne) _, ⟨_, hs⟩, h.len, h.byt⟩
/-- The fuse's cell is put. -/
theorem RfD.set2 (h : RfD W lb o base r c d) (d' : Dst) (hl' : d'.l = d.l) (ho : d'.off = d.off) (hw : d'.writes = d.writes) : RfD (W.setCell ⟨lb, o + 2, none⟩ (.int .i64 (left d'))) lb o base r c d' := by
  obtain ⟨cur, hl⟩ := h.lk
  have hs := heap_setCell_same _ _ (o + 2) _ _ (.int .i64 (left d')) hl
  have hlt : o + 2 < cur.size := by
    have := h.u
    rw [cell_at hl] at this
    exact (Array.getElem?_eq_some_iff.1 this).1
  have hc : ∀ j, j ≠ o + 2 → (W.setCell ⟨lb, o + 2, none⟩ (.int .i64 (left d'))).cell? ⟨lb, j, none⟩ = W.cell? ⟨lb, j, none⟩ := fun j hj => by rw [cell_at hs, cell_at hl, Array.getElem?_setIfInBounds_ne (by omega)]
  exact ⟨(hc _ (by omega)).trans h.b, by rw [ho]; exact (hc _ (by omega)).trans h.f, by rw [cell_at hs]; simp [hlt], by rw [hw]; exact (hc _ (by omega)).trans h.n, by rw [hl']; exact ownsRow_setZ h.row (fun g e => by cases e; exact h.ne) _, ⟨_, hs⟩, by rw [hl']; exact h.len, by rw [hl']; exact h.byt⟩
theorem RfD.set3 (h : RfD W lb o base r c d) (x : Int) : RfD (W.setCell ⟨lb, o + 3, none⟩ (.int .i64 x)) lb o base r c { d with writes := x } := by
  obtain ⟨cur, hl⟩ := h.lk
  have hs := heap_setCell_same _ _ (o + 3) _ _ (.int .i64 x) hl
  have hlt : o + 3 < cur.size := by
    have := h.n
    rw [cell_at hl] at this
    exact (Array.getElem?_eq_some_iff.1 this).1
  have hc : ∀ j, j ≠ o + 3 → (W.setCell ⟨lb, o + 3, none⟩ (.int .i64 x)).cell? ⟨lb, j, none⟩ = W.cell? ⟨lb, j, none⟩ := fun j hj => by rw [cell_at hs, cell_at hl, Array.getElem?_setIfInBounds_ne (by omega)]
  exact ⟨(hc _ (by omega)).trans h.b, (hc _ (by omega)).trans h.f, (hc _ (by omega)).trans h.u, by rw [cell_at hs]; simp [hlt], ownsRow_setZ h.row (fun g e => by cases e; exact h.ne) _, ⟨_, hs⟩, h.len, h.byt⟩
/-- A byte is put. -/
theorem RfD.putB (h : RfD W lb o base r c d) (j x : Nat) (hx : x < 256) : RfD (W.setCell ⟨r, j, none⟩ (.int .u8 (x : Int))) lb o base r c { d with l := d.l.set j x } := by
  obtain ⟨cur, hl⟩ := h.lk
  have hk : (W.setCell ⟨r, j, none⟩ (.int .u8 (x : Int))).heap[lb]? = W.heap[lb]? := Below.heap_setCell _ _ _ _ (Ne.symm h.ne)
  have hc : ∀ i, (W.setCell ⟨r, j, none⟩ (.int .u8 (x : Int))).cell? ⟨lb, i, none⟩ = W.cell? ⟨lb, i, none⟩ := fun i => World.cell?_of_block (a := ⟨lb, i, none⟩) hk
  refine ⟨(hc _).trans h.b, (hc _).trans h.f, (hc _).trans h.u, (hc _).trans h.n, ?_, ⟨cur, hk.trans hl⟩, by show (d.l.set j x).length = 256; rw [List.length_set]; exact h.len, ?_⟩
  · have := row_put (j := j) h.row (.int .u8 (x : Int))
    have e : (cB d.l).set j (.int .u8 (x : Int)) = cB (d.l.set j x) := by simp [cB, List.map_set]
    rw [e] at this
    exact this
  · intro z hz
    rcases List.mem_or_eq_of_mem_set hz with q | q
    · exact h.byt z q
    · rw [q]; exact hx
theorem left_fuse (d : Dst) (k : Int) : left (dFuse d k) = if 0 ≤ k then k else -1 := by
  by_cases h : 0 ≤ k
  · simp [left, dFuse, h]
  · simp only [left, dFuse, if_neg h]
    rw [decide_eq_false h]
    rfl
end

/-- A slice of these bytes, apart from the disk's own. -/
def RdX (W : World) (lb r : Nat) (ad : Option Addr) (l : List Nat) : Prop := l ≠ [] → ∃ b off, ad = some ⟨b, off, none⟩ ∧ b < W.heap.size ∧ b ≠ lb ∧ b ≠ r ∧ BAt W b off l
section
variable {W V : World} {lb o base r c : Nat} {d : Dst}
/-- A sector's bytes are put so far. -/
def putI (l : List Nat) (s : Nat) (x : List Nat) (i : Nat) : List Nat := splice l (32 * s) (x.take i)
theorem putI_0 (l : List Nat) (s : Nat) (x : List Nat) : putI l s x 0 = l := by simp [putI, splice]
theorem putI_32 {l : List Nat} {s : Nat} {x : List Nat} (h : x.length = 32) : putI l s x 32 = putS l s x := by rw [putI, putS, List.take_of_length_le (Nat.le_of_eq h)]
theorem putI_step {l : List Nat} {s : Nat} {x : List Nat} {i y : Nat} (hl : l.length = 256) (hs : s < 8) (hx : x.length = 32) (hy : x[i]? = some y) : (putI l s x i).set (32 * s + i) y = putI l s x (i + 1) := by
  have hi : i < 32 := by rw [← hx]; exact (List.getElem?_eq_some_iff.1 hy).1
  have e1 : (x.take i).length = i := by rw [List.length_take]; omega
  have e2 : (x.take (i + 1)).length = i + 1 := by rw [List.length_take]; omega
  have e0 : (l.take (32 * s)).length = 32 * s := by rw [List.length_take]; omega
  apply List.ext_getElem?
  intro j
  by_cases e : 32 * s + i = j
  · subst e
    rw [List.getElem?_set_self (by rw [putI, length_splice _ _ _ (by omega)]; omega)]
    simp only [putI, splice]
    rw [List.getElem?_append_right (by omega), e0, List.getElem?_append_left (by omega), Nat.add_sub_cancel_left, List.getElem?_take, if_pos (by omega), hy]
  · rw [List.getElem?_set_ne e]
    simp only [putI, splice, List.getElem?_append, e0, e1, e2, List.getElem?_take, List.getElem?_drop]
    by_cases h1 : j < 32 * s
    · simp [h1]
    · simp only [if_neg h1]
      by_cases h2 : j - 32 * s < i
      · rw [if_pos h2, if_pos (by omega)]
        simp only [if_pos (show j - 32 * s < i + 1 by omega)]
      · rw [if_neg h2, if_neg (by omega)]
        congr 1
        omega
theorem idx_bi (g n cap k : Nat) (z : Int) (hz : z = (k : Int)) (h : k < n) (w : World) : (Instr.indexAt 30 (.slice (some ⟨g, 0, none⟩) n cap) (.int .i64 z)).run Tryz.prog w = .ok (.pointer (some ⟨g, k, none⟩)) w := by
  subst hz
  have := idx_bz g 0 n cap k h w
  rw [Nat.zero_add] at this
  exact this
theorem load_sl {V : World} {B j n c : Nat} {a : Option Addr} (h : V.cell? ⟨B, j, none⟩ = some (.slice a n c)) : (Instr.loadAt 30 (.pointer (some ⟨B, j, none⟩))).run Tryz.prog V = .ok (.slice a n c) V := by go_simp
theorem field_rd0 (W : World) (B o : Nat) : (Instr.fieldAt 32 (.pointer (some ⟨B, o, none⟩)) 0).run Tryz.prog W = .ok (.pointer (some ⟨B, o, none⟩)) W := by go_simp
theorem store_u8 {V : World} {B j : Nat} {x y : Int} (h : V.cell? ⟨B, j, none⟩ = some (.int .u8 x)) (z : V.frozen? ⟨B, j, none⟩ = false) : (Instr.storeAt 5 (.pointer (some ⟨B, j, none⟩)) (.int .u8 y)).run Tryz.prog V = .ok () (V.setCell ⟨B, j, none⟩ (.int .u8 y)) := by go_simp
theorem left_burn {d : Dst} (hf : Fz d) (hl : ¬ left d = 0) (l : List Nat) (n : Int) : left { dBurn { d with l := l } with writes := n } = if left d > 0 then left d - 1 else left d := by
  cases hd : d.fused with
  | true =>
    obtain ⟨h1, _⟩ := hf hd
    have e : left d = d.fuse := by simp [left, hd]
    rw [e] at hl ⊢
    rw [if_pos (by omega)]
    simp [left, dBurn]
  | false =>
    have e : left d = -1 := by simp [left, hd]
    rw [e, if_neg (by decide)]
    simp [left, dBurn]
set_option maxHeartbeats 2000000 in
set_option maxRecDepth 100000 in
theorem rwrite_any (h : RfD W lb o base r c d) (s : Int) (ad : Option Addr) (cap : Nat) (x : List Nat) (hx : RdX W lb r ad x) (hb : Byt x) (hf : Fz d) (hw0 : 0 ≤ d.writes) (hw : d.writes ≤ 4611686018427387904) : Calls Tryz.prog 187 #[.pointer (some ⟨lb, o, none⟩), .int .i64 s, .slice ad x.length cap] W fun e w' => e = .returned (.int .i64 (dWr d s x).1) ∧ RfD w' lb o base r c (dWr d s x).2 ∧ Tf lb o r W w' := by
  have cf := h.f
  have cu := h.u
  have cn := h.n
  cases hof : d.off with
  | true =>
    rw [dWr_off s x hof]
    rw [hof] at cf
    go_enter Tryz.func187, Tryz.ntmps187
    go_wp2
    go_ret
    exact ⟨rfl, h, Tf.refl _ _ _ _⟩
  | false =>
  rw [hof] at cf
  by_cases hs : 0 ≤ s ∧ s < 8
  case neg =>
    rw [dWr_sec x hof hs]
    by_cases h0 : s < 0
    · clear hs
      go_enter Tryz.func187, Tryz.ntmps187
      go_wp2
      go_ret
      exact ⟨rfl, h, Tf.refl _ _ _ _⟩
    · have h8 : s ≥ 8 := by omega
      clear hs
      go_enter Tryz.func187, Tryz.ntmps187
      go_wp2
      go_ret
      exact ⟨rfl, h, Tf.refl _ _ _ _⟩
  have s0 : ¬ s < 0 := by omega
  have s8 : ¬ s ≥ 8 := by omega
  by_cases hxl : x.length = 32
  case neg =>
    rw [dWr_len hof hs hxl]
    have hxi : ¬ ((x.length : Int) = 32) := by omega
    clear hs
    go_enter Tryz.func187, Tryz.ntmps187
    go_wp2
    go_ret
    exact ⟨rfl, h, Tf.refl _ _ _ _⟩
  by_cases hl0 : left d = 0
  case pos =>
    rw [dWr_blow hof hs hxl hl0, hxl]
    rw [hl0] at cu
    have z1 := h.zaw (o + 1)
    have h1 := h.set1 true
    have cu1 := h1.u
    have e0 : left { d with off := true } = 0 := hl0
    rw [e0] at cu1
    have z2 := h1.zaw (o + 2)
    have h2 := h1.set2 (dFuse { d with off := true } (-1)) rfl rfl rfl
    rw [left_fuse, if_neg (by decide)] at h2
    clear hs e0
    go_enter Tryz.func187, Tryz.ntmps187
    go_wp2
    go_ret
    exact ⟨rfl, h2, (Tf.set _ _ _ _ _ _ (by omega) (by omega)).trans (Tf.set _ _ _ _ _ _ (by omega) (by omega))⟩
  obtain ⟨k, rfl⟩ := Int.eq_ofNat_of_zero_le hs.1
  have hk8 : k < 8 := by omega
  rw [dWr_ok hof hs hxl hl0, hxl]
  have hmx : Tryz.prog.follows .mixedOrders = true := by kernel_rfl
  have hbu := left_burn (l := putS d.l k x) (n := d.writes + 1) hf hl0
  have HBU : Hid (left { dBurn { d with l := putS d.l k x } with writes := d.writes + 1 } = if left d > 0 then left d - 1 else left d) := hbu
  obtain ⟨L, hL⟩ : ∃ L, left d = L := ⟨_, rfl⟩
  have HL : Hid (left d = L) := hL
  rw [hL] at cu hl0
  obtain ⟨b, off, rfl, hbl, hblb, hbr, hat⟩ := hx (fun e => by rw [e] at hxl; cases hxl)
  have HX : Hid (x.length = 32) := hxl
  have hrr := h.rb.1
  have hln := h.len
  have HLN : Hid (d.l.length = 256) := hln
  have hlm : L ≤ 9223372036854775807 := by
    rw [← hL, left]
    split
    · rename_i q; exact (hf q).2
    · decide
  clear hbu hL hxl hs hln hof
  have hd0 : ({ d with l := putI d.l k x 0 } : Dst) = d := by rw [putI_0]
  go_enter Tryz.func187, Tryz.ntmps187
  go_wp2
  go_loopw [7] (fun i wz => ∃ m : Nat, i = .int .i64 (m : Int) ∧ m ≤ 32 ∧ RfD wz lb o base r c { d with l := putI d.l k x m } ∧ Tf lb o r W wz) (fun i _ => 32 - vnatZ i)
  case atStart => exact ⟨0, rfl, by omega, by rw [hd0]; exact h, Tf.refl _ _ _ _⟩
  case round =>
    obtain ⟨m, rfl, hm, hR, hT⟩ := hrel
    by_cases hm32 : m < 32
    · have hmi : (m : Int) < 32 := by omega
      obtain ⟨y, hy⟩ : ∃ y, x[m]? = some y := ⟨_, List.getElem?_eq_getElem (by rw [HX.out]; exact hm32)⟩
      have hy8 : y < 256 := hb y (List.mem_of_getElem? hy)
      have hst := putI_step HLN.out hk8 HX.out hy
      have hc0 : ∀ V, Tf lb o r W V → V.cell? ⟨b, off + m, none⟩ = some (.int .u8 (y : Int)) := fun V hV => (World.cell?_of_block (a := ⟨b, off + m, none⟩) (hV.block b hbl hblb hbr)).trans (hat m y hy)
      clear hy
      go_wp2
      rename_i Q0 K0 hK
      refine wp_region_any hmx ?_
      refine wpAny_last 13 (fun i__ => ([(.pointer (some ⟨lb, o, none⟩)), (.pointer (some ⟨lb, o, none⟩)), (.pointer (some ⟨lb, o, none⟩)), (.slice (some ⟨r, 0, none⟩) 256 c), (.int .i64 (k : Int)), (.int .i64 (32 * (k : Int))), (.int .i64 (m : Int)), (.int .i64 (32 * (k : Int) + (m : Int))), (.slice (some ⟨b, off, none⟩) 32 cap), (.int .i64 (m : Int)), (.pointer (some ⟨b, off + m, none⟩)), (.int .u8 (y : Int)), (.pointer (some ⟨r, 32 * k + m, none⟩)), undef] : List Value).getD i__ undef) (fun V => RfD V lb o base r c { d with l := putI d.l k x m } ∧ Tf lb o r W V) (fun V => RfD V lb o base r c { d with l := putI d.l k x (m + 1) } ∧ Tf lb o r W V) rfl (by kernel_rfl) (by kernel_rfl) ⟨⟨hR.b, hR.f, hR.u, hR.n, hR.row, hR.lk, hR.len, hR.byt⟩, hT.trans (Tf.of _ _ _ (Below.refl _ _).drew)⟩ ?_ ?_  ?_
      · refine (stepsFrom_cons ?_ (stepsFrom_cons ?_ (stepsFrom_cons ?_ (stepsFrom_cons ?_ (stepsFrom_cons ?_ (stepsFrom_cons ?_ (stepsFrom_cons ?_ (stepsFrom_cons ?_ (stepsFrom_cons ?_ (stepsFrom_cons ?_ (stepsFrom_cons ?_ (stepsFrom_cons ?_ (stepsFrom_cons ?_ trivial)))))))))))))
        · exact step_move rfl trivial _ rfl (by kernel_rfl)
        · exact step_nilCheck rfl trivial _ _ _ rfl rfl rfl
        · exact step_fieldAddr rfl trivial _ _ _ _ rfl rfl (fun v hw => field_rd0 v _ _)
        · exact step_load rfl trivial _ _ _ rfl rfl (fun v hw => load_sl hw.1.b)
        · exact step_move rfl trivial _ rfl (by kernel_rfl)
        · exact step_binOp rfl trivial _ _ _ _ _ _ _ rfl rfl rfl (fun v hw => bin_mul64 _ _ _ (i64_idZ _ (by omega) (by omega)))
        · exact step_move rfl trivial _ rfl (by kernel_rfl)
        · exact step_binOp rfl trivial _ _ _ _ _ _ _ rfl rfl rfl (fun v hw => bin_add64 _ _ _ (i64_idZ _ (by omega) (by omega)))
        · exact step_move rfl trivial _ rfl (by kernel_rfl)
        · exact step_move rfl trivial _ rfl (by kernel_rfl)
        · exact step_indexAddr rfl trivial _ _ _ _ _ rfl rfl rfl (fun v hw => idx_bz b off _ _ m hm32 v)
        · exact step_load rfl trivial _ _ _ rfl rfl (fun v hw => load_u8 (hc0 v hw.2))
        · exact step_indexAddr rfl trivial _ _ _ _ _ rfl rfl rfl (fun v hw => idx_bi r _ _ (32 * k + m) _ (by omega) (by omega) v)
      · intro o ho
        cases ho
        exact step_store rfl trivial rfl _ _ _ _ _ rfl rfl rfl (fun v hw => by obtain ⟨q, hq⟩ : ∃ q, (putI d.l k x m)[32 * k + m]? = some q := ⟨_, List.getElem?_eq_getElem (by have := hw.1.len; dsimp only at this; omega)⟩; have hcq := hw.1.at (32 * k + m) q hq; rw [Nat.zero_add] at hcq; obtain ⟨_, cur, hcu⟩ := hw.1.rb; have hpb := hw.1.putB (32 * k + m) y hy8; dsimp only at hpb; rw [hst] at hpb; exact ⟨_, store_u8 hcq (thaw_at hcu _), hpb, hw.2.trans (Tf.put _ _ _ _ _ _ hw.1.ne)⟩)
      intro W hW
      first | refine hK _ _ ?_ | refine (‹∀ (a : Act) (w : World), Code.wp Tryz.prog _ _ a w → _›) _ _ ?_ | skip
      simp only [finL, List.getD_cons_zero, List.getD_cons_succ, Nat.zero_add, Nat.reduceAdd, List.setIfInBounds_toArray, List.set_cons_zero, List.set_cons_succ]
      obtain ⟨hR2, hT2⟩ := hW
      clear hK
      go_wp2
      go_roundw
      case rel => exact ⟨m + 1, by simp, by omega, hR2, hT2⟩
      case measure => simp [vnatZ]; omega
    · have hmm : m = 32 := by omega
      subst hmm
      rw [putI_32 HX.out] at hR
      have cu2 := hR.u
      have cu3 : wr.cell? ⟨lb, o + 2, none⟩ = some (.int .i64 L) := by
        rw [← HL.out]
        exact cu2
      have z2 := hR.zaw (o + 2)
      by_cases hLp : L > 0
      · have h2 := hR.set2 (dBurn { d with l := putS d.l k x }) rfl rfl rfl
        have eL : left (dBurn { d with l := putS d.l k x }) = L - 1 := by
          have := HBU.out
          rw [HL.out, if_pos hLp] at this
          exact this
        rw [eL] at h2
        have cn2 := h2.n
        have z3 := h2.zaw (o + 3)
        have hwi : IntKind.i64.wrap (L - 1) = L - 1 := i64_idZ _ (by omega) (by omega)
        have hwj : IntKind.i64.wrap (d.writes + 1) = d.writes + 1 := i64_idZ _ (by omega) (by omega)
        have cn3 : (wr.setCell ⟨lb, o + 2, none⟩ (.int .i64 (L - 1))).cell? ⟨lb, o + 3, none⟩ = some (.int .i64 d.writes) := cn2
        clear cu cn cf cu2 cn2
        go_wp2
        go_ret
        exact ⟨rfl, h2.set3 (d.writes + 1), (hT.trans (Tf.set _ _ _ _ _ _ (by omega) (by omega))).trans (Tf.set _ _ _ _ _ _ (by omega) (by omega))⟩
      · have eL : left (dBurn { d with l := putS d.l k x }) = left { d with l := putS d.l k x } := by
          have := HBU.out
          rw [HL.out, if_neg hLp] at this
          exact this.trans HL.out.symm
        have h2 : RfD wr lb o base r c (dBurn { d with l := putS d.l k x }) := ⟨hR.b, hR.f, by rw [eL]; exact hR.u, hR.n, hR.row, hR.lk, hR.len, hR.byt⟩
        have cn3 : wr.cell? ⟨lb, o + 3, none⟩ = some (.int .i64 d.writes) := h2.n
        have z3 := h2.zaw (o + 3)
        have hwj : IntKind.i64.wrap (d.writes + 1) = d.writes + 1 := i64_idZ _ (by omega) (by omega)
        clear cu cn cf cu2
        go_wp2
        go_ret
        exact ⟨rfl, h2.set3 (d.writes + 1), hT.trans (Tf.set _ _ _ _ _ _ (by omega) (by omega))⟩
end

theorem mk256' (w : World) : (Instr.makeSlice 30 (.int .i64 256) (.int .i64 256)).run Tryz.prog w = .ok (.slice (some ⟨w.heap.size, 0, none⟩) 256 256) (w.alloc (.cells z256 5)) := by kernel_rfl
theorem z256_own (w : World) : (w.alloc (.cells z256 5)).ownsRow w.heap.size 5 1 (.slice (some ⟨w.heap.size, 0, none⟩) 256 256) 256 (cB d0.l) := by
  have e0 : z256.size = 256 := by unfold z256; rw [List.size_toArray, cB_len, List.length_replicate]
  have e : z256.toList = cB d0.l := rfl
  refine ⟨by rw [cB_len, d0_len], .inr ⟨w.heap.size, 256, z256, rfl, Nat.le_refl _, new_at rfl, Nat.le_refl _, by unfold maxLen; omega, by rw [e0], ?_⟩⟩
  rw [e, List.take_of_length_le (by rw [cB_len, d0_len]; omega)]
theorem und_rd : Tryz.prog.underlying 32 = some (.struct ((match Tryz.prog.underlying 32 with | some (.struct f) => f | _ => #[]))) := by kernel_rfl
theorem info_rd : (Tryz.prog.info? 32).map (·.size) = some 4 := by kernel_rfl
/-- A block with the document's disk. -/
theorem row_setRow {W : World} {base g n c b : Nat} {e : TypeId} {xs : List Value} (h : W.ownsRow base e 1 (.slice (some ⟨g, 0, none⟩) n c) n xs) (hn : g ≠ b) (cs : Array Value) : (W.setRow b cs).ownsRow base e 1 (.slice (some ⟨g, 0, none⟩) n c) n xs := by
  refine ⟨h.1, ?_⟩
  rcases h.2 with ⟨e1, _⟩ | ⟨g1, c1, cur, e1, h2, h3, h4⟩
  · cases e1
  · cases e1
    exact .inr ⟨g, c, cur, rfl, h2, (setRow_other W b g cs hn).trans h3, h4⟩
def RBZ (W : World) (b : Nat) (v : Value) (o : Bool) (f n : Int) : Prop := W.heap[b]? = some (.cells #[v, .bool o, .int .i64 f, .int .i64 n] 32 (0, 0))
set_option maxHeartbeats 1000000 in
set_option maxRecDepth 100000 in
theorem rnew_any (w : World) : Calls Tryz.prog 6 #[] w fun e w' => ∃ r, e = .returned (rdV r 256 false (-1) 0) ∧ w.heap.size ≤ r ∧ w'.ownsRow w.heap.size 5 1 (.slice (some ⟨r, 0, none⟩) 256 256) 256 (cB d0.l) ∧ Below w.heap.size w w' := by
  have hm := mk256'
  obtain ⟨w1, hw1⟩ : ∃ w1, w.alloc (.cells #[.slice none 0 0, .bool false, .int .i64 0, .int .i64 0] 32) = w1 := ⟨_, rfl⟩
  have hb1 : Below w.heap.size w w1 := by rw [← hw1]; exact al1'Z _ _
  have hg1 : RBZ w1 w.heap.size (.slice none 0 0) false 0 0 := by rw [← hw1]; exact new_at rfl
  obtain ⟨w2, hw2⟩ : ∃ w2, w1.alloc (.cells z256 5) = w2 := ⟨_, rfl⟩
  have hb2 : Below w1.heap.size w1 w2 := by rw [← hw2]; exact al1'Z _ _
  have ho2 := z256_own w1
  rw [hw2] at ho2
  have hg2 : RBZ w2 w.heap.size (.slice none 0 0) false 0 0 := (hb2.block _ (lt_at hg1)).trans hg1
  have hlt := lt_at hg1
  go_enter Tryz.func6, Tryz.ntmps6
  go_wp2_with (refine wpList_store_row rfl 32 (.tmp 0) (.tmp 2) rfl w.heap.size #[.slice (some ⟨w1.heap.size, 0, none⟩) 256 256, .bool false, .int .i64 (-1), .int .i64 0] rfl rfl 32 _ hg2 info_rd rfl (by simp [Value.oneCell']) ?_; obtain ⟨v, hv⟩ : ∃ v, w2.setRow w.heap.size #[.slice (some ⟨w1.heap.size, 0, none⟩) 256 256, .bool false, .int .i64 (-1), .int .i64 0] = v := ⟨_, rfl⟩; have HV : Hid (RBZ v w.heap.size (.slice (some ⟨w1.heap.size, 0, none⟩) 256 256) false (-1) 0) := (by rw [← hv]; exact setRow_heap _ _ _ _ _ _ hg2); have HB : Hid (Below w.heap.size w v) := (by rw [← hv]; exact below_setRow (bel2Z hb1 hb2) (Nat.le_refl _) _); have HR : Hid (v.ownsRow w.heap.size 5 1 (.slice (some ⟨w1.heap.size, 0, none⟩) 256 256) 256 (cB d0.l)) := (by rw [← hv]; exact row_baseZ (row_setRow ho2 (show w1.heap.size ≠ w.heap.size by omega) _) (Nat.le_of_lt hlt)); rw [hv])
  (try simp only [Exit.inBlock, Exit.then])
  refine bodyPost_ret (results_cell_row rfl _ _ w.heap.size _ _ (0, 0) _ rfl HV.out und_rd rfl info_rd) rfl ?_
  exact ⟨w1.heap.size, rfl, Nat.le_of_lt hlt, HR.out, HB.out⟩
end Go.Proofs.YtklnfbanfgdgcaaGreatDoor
